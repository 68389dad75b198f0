import PyProof.Rows.All
import Wide.All
import OpenK.AllK
import Wide.FinOn
import Lean
import PyProof.EqAt
import PyProof.EqKinds
import PyProof.TupleCall
import PyProof.ZipIter
import PyProof.TupleIter
import PyProof.AttrMiss
import PyProof.TupleKey
import PyProof.DictFindH
import KE.KDictOf
import PyProof.DictIter
import PyProof.DictWalks
import PyProof.ListRange
import KE.KDictList
import PyProof.CompUse
import KE.KTryMore
import PyProof.WalkInts
import KE.KIntText
import PyProof.StrLawsTight
import PyProof.Rows.StrIntSpec
import KE.KxMul
import KE.KEqDict
import PyProof.DictValues
import PyProof.StrLawsChain
import PySem.Challenge.RW_plymap_k94_refused_texts
set_option Elab.async false
set_option linter.all false
set_option maxRecDepth 100000
/-! THE HAND LAYER, for ints, bools, texts, own classes, LISTS and tuples (index, slices, in, append, pop ..), calls, loops. Paste it whole ahead of your own text; what your proof does not reach may be deleted. -/
namespace L2
open PySem PySem.Spec PyProof.Rows

/-- a key: an int or a str -/
abbrev Key := Sum Int Str
def keyIs : Key → Value → Bool
  | .inl k, v => Value.isInt k v
  | .inr x, v => Value.isStrOf x v
def keyH (w : World) : Key → Int
  | .inl k => hashInt k
  | .inr x => hashStr w x
theorem keyIs_shape : ∀ {k : Key} {v : Value}, keyIs k v = true → (∃ i t, k = Sum.inl i ∧ v = Value.int i t) ∨ (∃ x t, k = Sum.inr x ∧ v = Value.str x t)
  | .inl i, v, h => by
    obtain ⟨t, e⟩ := Value.isInt_shape (k := i) (v := v) h
    exact .inl ⟨i, t, rfl, e⟩
  | .inr x, v, h => by
    obtain ⟨t, e⟩ := Value.isStrOf_shape (x := x) (v := v) h
    exact .inr ⟨x, t, rfl, e⟩
theorem key_ll (a b : Int) : decide ((Sum.inl a : Key) = Sum.inl b) = (a == b) := by
  by_cases e : a = b
  · subst e; simp
  · have h : ¬ (Sum.inl a : Key) = Sum.inl b := fun q => e (Sum.inl.inj q)
    rw [decide_eq_false h]
    exact (beq_eq_false_iff_ne.mpr e).symm
theorem key_rr (a b : Str) : decide ((Sum.inr a : Key) = Sum.inr b) = decide (a = b) := by
  by_cases e : a = b
  · subst e; simp
  · have h : ¬ (Sum.inr a : Key) = Sum.inr b := fun q => e (Sum.inr.inj q)
    rw [decide_eq_false h, decide_eq_false e]
theorem key_lr (a : Int) (b : Str) : decide ((Sum.inl a : Key) = Sum.inr b) = false := decide_eq_false (fun q => nomatch q)
theorem key_rl (a : Str) (b : Int) : decide ((Sum.inr a : Key) = Sum.inl b) = false := decide_eq_false (fun q => nomatch q)

def mixKind (prog : Program) (w : World) : PySem.KeyKind prog w Key where
  is := keyIs
  hash := keyH w
  inj := fun v a b ha hb => by
    rcases keyIs_shape ha with ⟨i, t, rfl, rfl⟩ | ⟨x, t, rfl, rfl⟩
    · rcases keyIs_shape hb with ⟨j, u, rfl, e⟩ | ⟨y, u, rfl, e⟩
      · injection e with e1 _; rw [e1]
      · exact nomatch e
    · rcases keyIs_shape hb with ⟨j, u, rfl, e⟩ | ⟨y, u, rfl, e⟩
      · exact nomatch e
      · injection e with e1 _; rw [e1]
  byValue := fun k v h => by
    rcases keyIs_shape h with ⟨i, t, rfl, rfl⟩ | ⟨x, t, rfl, rfl⟩ <;> rfl
  pyHash := fun hv h => by
    rcases keyIs_shape hv with ⟨i, t, rfl, rfl⟩ | ⟨x, t, rfl, rfl⟩
    · exact wpAny_pyHash_int h
    · exact wpAny_pyHash_str h
  eqBool := fun hu hv h => by
    rcases keyIs_shape hu with ⟨i, t, rfl, rfl⟩ | ⟨x, t, rfl, rfl⟩
    · rcases keyIs_shape hv with ⟨j, u, rfl, rfl⟩ | ⟨y, u, rfl, rfl⟩
      · rw [key_ll] at h; exact wpAny_eqBool_int h
      · rw [key_lr] at h; exact SeqAt.EqAt.int_str i t y u _ _ _ _ h
    · rcases keyIs_shape hv with ⟨j, u, rfl, rfl⟩ | ⟨y, u, rfl, rfl⟩
      · rw [key_rl] at h; exact SeqAt.EqAt.str_int x t j u _ _ _ _ h
      · rw [key_rr] at h; exact wpAny_eqBool_str h
  «strs» := fun k x t v h => by
    rcases keyIs_shape h with ⟨i, u, rfl, e⟩ | ⟨y, u, rfl, e⟩
    · exact nomatch e
    · injection e with e1 _
      subst e1
      cases v <;> rfl

end L2

namespace L2
open PySem PySem.Spec PyProof.Rows

/-- a value, without the heap -/
inductive V where
  | non | bl (b : Bool) | int (i : Int) | str (x : Str) | byt (b : Array UInt8) | flt (b : UInt64) | ref (a : Addr) | ty (n : String)
  deriving DecidableEq

def RelV : V → Value → Prop
  | .non, u => u = Value.none
  | .bl b, u => u = Value.bool b
  | .int i, u => ∃ t, u = Value.int i t
  | .str x, u => ∃ t, u = Value.str x t
  | .byt b, u => ∃ t, u = Value.bytes b t
  | .flt b, u => ∃ t, u = Value.float b t
  | .ref a, u => u = Value.ref a
  | .ty n, u => u = Value.type n

abbrev Vals : List V → List Value → Prop := Paired RelV
theorem Vals.length {xs : List V} {us : List Value} (r : Vals xs us) : xs.length = us.length := Paired.length r
theorem Vals.get : ∀ {xs : List V} {us : List Value} {i : Nat} {x : V}, Vals xs us → xs[i]? = some x → ∃ u, us[i]? = some u ∧ RelV x u
  | _, _, _, _, .nil, e => by simp at e
  | _, _, 0, _, .cons r _, e => by simp at e; subst e; exact ⟨_, rfl, r⟩
  | _, _, i + 1, x, .cons _ t, e => by
    obtain ⟨u, h1, h2⟩ := Vals.get (i := i) (x := x) t (by simpa using e)
    exact ⟨u, by simpa using h1, h2⟩
theorem Vals.set {x : V} {u : Value} (r : RelV x u) : ∀ {xs : List V} {us : List Value} (i : Nat), Vals xs us → Vals (xs.set i x) (us.set i u)
  | _, _, _, .nil => .nil
  | _, _, 0, .cons _ t => .cons r t
  | _, _, i + 1, .cons q t => .cons q (Vals.set r i t)
theorem Vals.append : ∀ {xs ys : List V} {us ws : List Value}, Vals xs us → Vals ys ws → Vals (xs ++ ys) (us ++ ws)
  | _, _, _, _, .nil, s => s
  | _, _, _, _, .cons r t, s => .cons r (Vals.append t s)
theorem Vals.take : ∀ {xs : List V} {us : List Value} (n : Nat), Vals xs us → Vals (xs.take n) (us.take n)
  | _, _, 0, _ => .nil
  | _, _, _ + 1, .nil => .nil
  | _, _, n + 1, .cons r t => .cons r (Vals.take n t)
theorem Vals.drop : ∀ {xs : List V} {us : List Value} (n : Nat), Vals xs us → Vals (xs.drop n) (us.drop n)
  | _, _, 0, r => r
  | _, _, _ + 1, .nil => .nil
  | _, _, n + 1, .cons _ t => Vals.drop n t

def RelO : Option V → Option Value → Prop
  | some v, some u => RelV v u
  | none, none => True
  | _, _ => False
def KV {κ : Type} : List (κ × V) → List (κ × Value) → Prop := Paired fun (p : κ × V) (q : κ × Value) => p.1 = q.1 ∧ RelV p.2 q.2

/-- a key of a dict (00_mix): an int or a text -/
def kV : Key → V
  | .inl i => .int i
  | .inr x => .str x

/-- what stands at a tracked address -/
inductive HO where
  /-- a list -/
  | lst (xs : List V)
  /-- a tuple (never changes) -/
  | tup (xs : List V)
  /-- a dict whose keys are ints and texts; one whose keys are tuples of ints and texts (the empty one is both) -/
  | dK (kvs : List (Key × V)) | dT (kvs : List (List Key × V))
  /-- a set of ints: its members, its size -/
  | set (S : Int → Bool) (n : Nat)
  /-- an instance of the class at C, its dict at dx, its attributes -/
  | ins (C dx : Addr) (fs : List (Str × V))
  /-- the dict of the instance at x -/
  | own (x : Addr)
  /-- the dict of an exception -/
  | xd (fs : List (Str × V))
  /-- a bound method, f of x -/
  | met (f x : Addr)
  /-- a range object lo, lo + 1, .. below hi -/
  | rng (lo hi : Int)
  /-- a thing that is known to the object (the script; a dict while a loop walks it): read, never written while it is so -/
  | frz (o : Obj) (u : HO)
  /-- a code object's table -/
  | tbl (ps : Array Value)
  /-- any other thing, by what is true of its one object (a def of one's own: SetO a S n := HO.ext fun h => ..) -/
  | ext (φ : Heap → Prop)

abbrev Hp := Addr → Option HO
def upd (H : Hp) (a : Addr) (o : HO) : Hp := fun b => if b = a then some o else H b
theorem upd_same {H : Hp} {a : Addr} {o : HO} : upd H a o a = some o := by unfold upd; rw [if_pos rfl]
theorem upd_ne {H : Hp} {a b : Addr} {o : HO} (h : b ≠ a) : upd H a o b = H b := by unfold upd; rw [if_neg h]
theorem upd_upd {H : Hp} {a : Addr} {o u : HO} : upd (upd H a o) a u = upd H a u := by
  funext b; unfold upd; split <;> rfl
/-- two objects of different content stand apart -/
theorem ne_of {H : Hp} {a b : Addr} {o u : HO} (h : H a = some o) (h' : H b = some u) (d : o ≠ u) : a ≠ b := by
  intro e; subst e; rw [h] at h'; exact d (Option.some.inj h')
theorem ne_of_none {H : Hp} {a b : Addr} {o : HO} (h : H a = some o) (h' : H b = none) : a ≠ b := by
  intro e; subst e; rw [h] at h'; cases h'

section
variable (P : Program) (w : World)
def ObjOk (H : Hp) (h : Heap) (a : Addr) : HO → Prop
  | .lst xs => xs.length ≤ sizeLine ∧ ∃ (its : List Value) (n : Nat), Vals xs its ∧ h.get? a = some { cls := .type "list", data := .seq its.toArray n }
  | .tup xs => xs.length ≤ sizeLine ∧ ∃ its : List Value, Vals xs its ∧ IsTup h a its.toArray
  | .dK kvs => kvs.length ≤ sizeLine ∧ (a == sysModules) = false ∧ ∃ vs, KV kvs vs ∧ h.DictOf (mixKind P w) a vs
  | .dT kvs => kvs.length ≤ sizeLine ∧ (a == sysModules) = false ∧ ∃ xs : List (List Key × Addr × Value),
      Paired (fun (p : List Key × V) (q : List Key × Addr × Value) => p.1 = q.1 ∧ H q.2.1 = some (.tup (p.1.map kV)) ∧ RelV p.2 q.2.2) kvs xs ∧
      ∃ o es ep, h.get? a = some o ∧ o.ExactDict ∧ o.data = .dict es ep ∧ es.toList = xs.map (entryOfKey (tupleKind (mixKind P w))) ∧ (xs.map (·.1)).Nodup
  | .set S n => h.SetOf (intKind P w) a S n
  | .ins C dx fs => H dx = some (.own a) ∧ fs.length ≤ 1000 ∧ dx ≠ a ∧ h.get? a = some (PySem.W.instObj C dx) ∧
      ∃ mA, h.Ns1 dx mA ∧ (∀ f, RelO (fs.lookup f) (mA f)) ∧ PySem.Within mA (fs.map (·.1))
  | .own _ => ∃ o, h.get? a = some o
  | .xd fs => ∃ mA, h.Ns1 a mA ∧ ∀ f, RelO (fs.lookup f) (mA f)
  | .rng lo hi => ∃ t u v, h.get? a = some { cls := .type "range", data := .fields #[.int lo t, .int hi u, .int 1 v] }
  | .frz o u => h.get? a = some o ∧ ObjOk H h a u
  | .tbl ps => h.get? a = some { cls := .none, data := .fields ps }
  | .met f x => h.get? a = some (PySem.W.methodObj (.ref f) (.ref x))
  | .ext φ => φ h ∧ (∃ o, h.get? a = some o) ∧ ∀ h1 h2 : Heap, φ h1 → (∀ o, h1.get? a = some o → h2.get? a = some o) → φ h2
/-- the abstract heap is held -/
def HOk (H : Hp) (h : Heap) : Prop := ∀ a o, H a = some o → ObjOk P w H h a o
end

section
variable {P : Program} {w : World} {H H' : Hp} {h h' : Heap} {a : Addr} {o : HO}
theorem ObjOk.lt (x : ObjOk P w H h a o) : a < h.objs.size := by
  cases o with
  | lst xs => obtain ⟨_, _, _, _, e⟩ := x; exact Heap.lt_size e
  | tup xs => obtain ⟨_, _, _, p⟩ := x; exact p.lt
  | dK kvs => obtain ⟨_, _, _, _, o, _, _, e, _⟩ := x; exact Heap.lt_size e
  | dT kvs => obtain ⟨_, _, _, _, o, _, _, e, _⟩ := x; exact Heap.lt_size e
  | set S n => obtain ⟨o, _, _, _, e, _⟩ := x; exact Heap.lt_size e
  | ins C dx fs => obtain ⟨_, _, _, e, _⟩ := x; exact Heap.lt_size e
  | own y => obtain ⟨_, e⟩ := x; exact Heap.lt_size e
  | xd fs => obtain ⟨_, ⟨_, _, _, e, _⟩, _⟩ := x; exact Heap.lt_size e
  | rng lo hi => obtain ⟨_, _, _, e⟩ := x; exact Heap.lt_size e
  | frz ob u => obtain ⟨e, _⟩ := x; exact Heap.lt_size e
  | tbl ps => exact Heap.lt_size (show h.get? a = some _ from x)
  | met f y => exact Heap.lt_size (show h.get? a = some _ from x)
  | ext φ => obtain ⟨_, ⟨_, e⟩, _⟩ := x; exact Heap.lt_size e
theorem Paired.mapP {α β : Type} {F G : α → β → Prop} : ∀ {l₁ : List α} {l₂ : List β}, Paired F l₁ l₂ → (∀ a b, F a b → G a b) → Paired G l₁ l₂
  | _, _, .nil, _ => .nil
  | _, _, .cons r t, f => .cons (f _ _ r) (Paired.mapP t f)
/-- what an object's description leans on: its own object, its own dict, the tuples -/
theorem ObjOk.stay (x : ObjOk P w H h a o) (k : ∀ b u, (b = a ∨ H b = some (.own a)) → h.get? b = some u → h'.get? b = some u)
    (ho : ∀ b, H b = some (.own a) → H' b = some (.own a)) (ht : ∀ b xs, H b = some (.tup xs) → H' b = some (.tup xs)) : ObjOk P w H' h' a o := by
  induction o with
  | lst xs => obtain ⟨z, its, n, r, e⟩ := x; exact ⟨z, its, n, r, k _ _ (.inl rfl) e⟩
  | tup xs => obtain ⟨z, its, r, ob, e, c⟩ := x; exact ⟨z, its, r, ob, k _ _ (.inl rfl) e, c⟩
  | dK kvs => obtain ⟨z, y, vs, r, ob, es, ep, e, c⟩ := x; exact ⟨z, y, vs, r, ob, es, ep, k _ _ (.inl rfl) e, c⟩
  | dT kvs =>
    obtain ⟨z, y, xs, r, ob, es, ep, e, c⟩ := x
    exact ⟨z, y, xs, Paired.mapP r fun p q z => ⟨z.1, ht _ _ z.2.1, z.2.2⟩, ob, es, ep, k _ _ (.inl rfl) e, c⟩
  | set S n => obtain ⟨ob, es, ep, t, e, c⟩ := x; exact ⟨ob, es, ep, t, k _ _ (.inl rfl) e, c⟩
  | ins C dx fs =>
    obtain ⟨d, z, ne, e, mA, ⟨od, es, ep, e2, c⟩, r⟩ := x
    exact ⟨ho _ d, z, ne, k _ _ (.inl rfl) e, mA, ⟨od, es, ep, k _ _ (.inr d) e2, c⟩, r⟩
  | own y => obtain ⟨ob, e⟩ := x; exact ⟨ob, k _ _ (.inl rfl) e⟩
  | xd fs => obtain ⟨mA, ⟨od, es, ep, e, c⟩, r⟩ := x; exact ⟨mA, ⟨od, es, ep, k _ _ (.inl rfl) e, c⟩, r⟩
  | rng lo hi => obtain ⟨t, u, v, e⟩ := x; exact ⟨t, u, v, k _ _ (.inl rfl) e⟩
  | frz ob u ih => obtain ⟨e, q⟩ := x; exact ⟨k _ _ (.inl rfl) e, ih q⟩
  | tbl ps =>
    have e : h.get? a = some { cls := .none, data := .fields ps } := x
    show h'.get? a = some { cls := .none, data := .fields ps }
    exact k a _ (.inl rfl) e
  | met f y =>
    have e : h.get? a = some (PySem.W.methodObj (.ref f) (.ref y)) := x
    show h'.get? a = some (PySem.W.methodObj (.ref f) (.ref y))
    exact k a _ (.inl rfl) e
  | ext φ => obtain ⟨p, ⟨o, e⟩, st⟩ := x; exact ⟨st _ _ p fun o q => k _ _ (.inl rfl) q, ⟨o, k _ _ (.inl rfl) e⟩, st⟩
theorem HOk.lt (x : HOk P w H h) (e : H a = some o) : a < h.objs.size := (x a o e).lt
theorem HOk.fresh (x : HOk P w H h) (e : h.objs.size ≤ a) : H a = none := by
  cases q : H a with
  | none => rfl
  | some u => exact absurd (Nat.lt_of_lt_of_le (x.lt q) e) (Nat.lt_irrefl _)
/-- every object of the heap is kept -/
theorem HOk.kept (x : HOk P w H h) (k : ∀ b u, h.get? b = some u → h'.get? b = some u) : HOk P w H h' := fun a o e =>
  (x a o e).stay (fun b u _ q => k b u q) (fun _ q => q) fun _ _ q => q
/-- a new object is laid and tracked -/
theorem HOk.laid (x : HOk P w H h) (k : ∀ b u, h.get? b = some u → h'.get? b = some u) (hp : h.objs.size ≤ a) (new : ObjOk P w (upd H a o) h' a o) : HOk P w (upd H a o) h' := fun b u e => by
  have hn := x.fresh hp
  by_cases hb : b = a
  · subst hb; rw [upd_same] at e; cases e; exact new
  · rw [upd_ne hb] at e
    exact (x b u e).stay (fun c v _ q => k c v q) (fun c q => by rw [upd_ne (ne_of_none q hn)]; exact q) fun c xs q => by rw [upd_ne (ne_of_none q hn)]; exact q
end

/-- what may be read as u: it is u, or a known u -/
def Rd (H : Hp) (a : Addr) (u : HO) : Prop := H a = some u ∨ ∃ o, H a = some (.frz o u)
theorem Rd.ok {P : Program} {w : World} {H : Hp} {h : Heap} {a : Addr} {u : HO} (r : Rd H a u) (x : HOk P w H h) : ObjOk P w H h a u := by
  rcases r with r | ⟨o, r⟩
  · exact x a u r
  · obtain ⟨_, q⟩ := x a _ r
    exact q
/-- what may be written -/
def Mut : Option HO → Prop
  | some (.lst _) => True
  | some (.dK _) => True
  | some (.dT _) => True
  | some (.set _ _) => True
  | some (.ins _ _ _) => True
  | some (.ext _) => True
  | _ => False
section
variable {P : Program} {w : World} {H : Hp} {h h' : Heap} {x e : Addr} {o' : HO}
/-- the object at e is changed: x itself, or the dict of the instance x -/
theorem HOk.write (ok : HOk P w H h) (mu : Mut (H x)) (he : e = x ∨ H e = some (.own x)) (k : ∀ b u, b ≠ e → h.get? b = some u → h'.get? b = some u) (heo : ∃ u, h'.get? e = some u)
    (new : ObjOk P w (upd H x o') h' x o') : HOk P w (upd H x o') h' := fun b u q => by
  have nown : ∀ c y, H c = some (.own y) → c ≠ x := fun c y r z => by subst z; rw [r] at mu; exact mu
  have ntup : ∀ c xs, H c = some (.tup xs) → c ≠ x := fun c xs r z => by subst z; rw [r] at mu; exact mu
  by_cases hb : b = x
  · subst hb; rw [upd_same] at q; cases q; exact new
  · rw [upd_ne hb] at q
    by_cases hbe : b = e
    · have q' : H b = some (.own x) := by
        rcases he with z | z
        · exact absurd (hbe.trans z) hb
        · rw [hbe]; exact z
      rw [q] at q'; cases q'
      obtain ⟨v, hv⟩ := heo
      exact ⟨v, by rw [hbe]; exact hv⟩
    · refine (ok b u q).stay (fun c v hc r => k c v ?_ r) (fun c r => by rw [upd_ne (nown c b r)]; exact r) fun c xs r => by rw [upd_ne (ntup c xs r)]; exact r
      rcases hc with rfl | hc
      · exact hbe
      · rintro rfl
        rcases he with z | z
        · exact nown c b hc z
        · rw [hc] at z; cases z; exact hb rfl
end

/-! ### kept unless tracked; of the frames at fs (the callers') the slots may change (an exception that passes writes there); of the records at ex (iterators) nothing is said -/
structure Un (fs ex : List Addr) (H H' : Hp) (h h' : Heap) : Prop where
  keep : ∀ b o, h.get? b = some o → H b = none → b ∉ fs → b ∉ ex → h'.get? b = some o
  slot : ∀ b o, h.get? b = some o → H b = none → b ∈ fs → b ∉ ex → ∃ sl, h'.get? b = some { o with slots := sl }
  free : ∀ b o, h.get? b = some o → H b = none → b ∉ ex → H' b = none
  there : ∀ b o, h.get? b = some o → b ∉ ex → ∃ o', h'.get? b = some o'
  tups : ∀ b xs, H b = some (.tup xs) → H' b = some (.tup xs)
  frzs : ∀ b o u, H b = some (.frz o u) → H' b = some (.frz o u)
  tbls : ∀ b ps, H b = some (.tbl ps) → ∃ more, H' b = some (.tbl (ps ++ more))
section
variable {fs fs' ex ex' : List Addr} {H H1 H2 : Hp} {h h1 h2 h' : Heap} {a x e : Addr} {o : HO}
theorem Un.any (u : Un fs ex H H1 h h1) {b : Addr} {ob : Obj} (q : h.get? b = some ob) (n : H b = none) (hx : b ∉ ex) : ∃ sl, h1.get? b = some { ob with slots := sl } := by
  by_cases hb : b ∈ fs
  · exact u.slot b ob q n hb hx
  · exact ⟨ob.slots, u.keep b ob q n hb hx⟩
theorem Un.kept (k : ∀ b u, h.get? b = some u → h'.get? b = some u) : Un fs ex H H h h' :=
  ⟨fun b ob q _ _ _ => k b ob q, fun b ob q _ _ _ => ⟨ob.slots, k b ob q⟩, fun _ _ _ n _ => n, fun b ob q _ => ⟨ob, k b ob q⟩, fun _ _ q => q, fun _ _ _ q => q, fun _ ps q => ⟨#[], by rw [q]; simp⟩⟩
theorem Un.refl : Un fs ex H H h h := Un.kept fun _ _ q => q
theorem Un.laid (k : ∀ b u, h.get? b = some u → h'.get? b = some u) (hp : h.objs.size ≤ a) (hn : H a = none) : Un fs ex H (upd H a o) h h' where
  keep := fun b u q _ _ _ => k b u q
  slot := fun b u q _ _ _ => ⟨u.slots, k b u q⟩
  free := fun b u q n _ => by rw [upd_ne (Nat.ne_of_lt (Nat.lt_of_lt_of_le (Heap.lt_size q) hp))]; exact n
  there := fun b u q _ => ⟨u, k b u q⟩
  tups := fun b xs q => by rw [upd_ne (ne_of_none q hn)]; exact q
  frzs := fun b u xs q => by rw [upd_ne (ne_of_none q hn)]; exact q
  tbls := fun b ps q => ⟨#[], by rw [upd_ne (ne_of_none q hn), q]; simp⟩
theorem Un.write (mu : Mut (H x)) (he : e = x ∨ H e = some (.own x)) (k : ∀ b u, b ≠ e → h.get? b = some u → h'.get? b = some u) (heo : ∃ u, h'.get? e = some u) : Un fs ex H (upd H x o) h h' := by
  have hx : ∀ b, H b = none → b ≠ x := fun b n z => by subst z; rw [n] at mu; exact mu
  have hb : ∀ b, H b = none → b ≠ e := fun b n z => by
    subst z
    rcases he with r | r
    · exact hx b n r
    · rw [n] at r; cases r
  have hm : ∀ b u, H b = some u → ¬ Mut (some u) → b ≠ x := fun b u q nm z => by subst z; rw [q] at mu; exact nm mu
  refine ⟨fun b u q n _ _ => k b u (hb b n) q, fun b u q n _ _ => ⟨u.slots, k b u (hb b n) q⟩, fun b u q n _ => by rw [upd_ne (hx b n)]; exact n, fun b u q _ => ?_,
    fun b xs q => by rw [upd_ne (hm b _ q fun z => z)]; exact q, fun b u xs q => by rw [upd_ne (hm b _ q fun z => z)]; exact q, fun b ps q => ⟨#[], by rw [upd_ne (hm b _ q fun z => z), q]; simp⟩⟩
  by_cases hbe : b = e
  · subst hbe; exact heo
  · exact ⟨u, k b u hbe q⟩
end

/-! ### the heap without what is tracked -/
def trk (h : Heap) (H : Hp) : List Addr := (List.range h.objs.size).filter fun a => (H a).isSome
def hidT (h : Heap) (H : Hp) : Heap := PySem.W.hideAll h (trk h H)
theorem hidT_size (h : Heap) (H : Hp) : (hidT h H).objs.size = h.objs.size := PySem.W.hideAll_size _ _
theorem hidT_get {h : Heap} {H : Hp} {b : Addr} {o : Obj} (e : h.get? b = some o) (n : H b = none) : (hidT h H).get? b = some o :=
  PySem.W.hideAll_get _ e fun hm => by
    have q : (H b).isSome = true := (List.mem_filter.mp hm).2
    rw [n] at q; simp at q
theorem of_hidT {h : Heap} {H : Hp} {b : Addr} {o : Obj} (e : (hidT h H).get? b = some o) : h.get? b = some o ∧ H b = none := by
  have e' : h.get? b = some o := PySem.W.of_hideAll (trk h H) e
  refine ⟨e', ?_⟩
  cases q : H b with
  | none => rfl
  | some x =>
    have hm : b ∈ trk h H := List.mem_filter.mpr ⟨List.mem_range.mpr (Heap.lt_size e'), by simp [q]⟩
    have z : (hidT h H).get? b = none := PySem.W.hideAll_none (trk h H) hm
    rw [z] at e; cases e

/-! ### OpenK's ledger, filled with every new object but one -/
end L2

namespace L2
open PySem PySem.Spec PyProof.Rows

/-- the module's facts, over the base: the heap at the law's entry without what is tracked there -/
structure Mod (K : PySem.W.Frag) (mg : Str → Option Value) (base : Heap) : Prop where
  kin : K.In base
  glob : base.Ns mainGlobals mg
  blt : ∃ mb, base.Ns builtinsNs mb ∧ ∀ x : Str, x ≠ "__name__" → mb x = bootBuiltins x
  nolimit : base.NoLimit

/-- the context: a def's body (or a comprehension's block) running. base: fixed through the whole law; s₀, H₀: the entry; outer: the frames whose slots others may change (a def's callers); stack: all frames that run;
   ex: iterators that were made ahead of the entry and are walked here (a comprehension's); fn: the names whose cells were made at the entry (a def: all; a comprehension's block: its own); calm: not within an except suite; pn: pins that every state bears; xe: what is wanted of an exception that leaves the code -/
structure Cx where
  prog : Program
  w : World
  K : PySem.W.Frag
  mg : Str → Option Value
  base : Heap
  A : Around
  N : List Str
  s₀ : Shared
  H₀ : Hp
  env : Env
  outer : List Env
  stack : List Env
  ex : List Addr
  fn : Str → Bool
  calm : Bool
  pn : List (Addr × Obj)
  xe : Value → Shared → Prop
/-- the callers' frames -/
def frs (l : List Env) : List Addr := l.filterMap (·.frame)
abbrev Cx.fs (X : Cx) : List Addr := frs X.outer

def Vis (sc : Scope) (x : Str) : Prop := sc.names.lookup x = some .local ∨ sc.names.lookup x = some .cell ∨ sc.names.lookup x = some .free
def Loc (sc : Scope) (x : Str) : Prop := sc.names.lookup x = some .local ∨ sc.names.lookup x = some .cell
def Look (env : Env) (h : Heap) (m : Str → Option Value) (x : Str) (u : Value) : Prop :=
  (env.kindOf x = some .local ∧ m x = some u) ∨ ((env.kindOf x = some .cell ∨ env.kindOf x = some .free) ∧ ∃ c, env.cells.lookup x = some c ∧ h.IsCell c (some u))

structure Cx.Ok (X : Cx) : Prop where
  mod : Mod X.K X.mg X.base
  kind : X.env.scope.kind = .function
  glob : X.env.globals = mainGlobals
  blt : X.env.builtins = builtinsNs
  above : X.s₀.heap.objs.size ≤ X.env.locals
  inj : ∀ x y c, X.env.cells.lookup x = some c → X.env.cells.lookup y = some c → x = y
  has : ∀ x, (X.env.kindOf x = some .cell ∨ X.env.kindOf x = some .free) → ∃ c, X.env.cells.lookup x = some c
  cab : ∀ x c, X.fn x = true → X.env.cells.lookup x = some c → X.s₀.heap.objs.size ≤ c
  hd : X.calm = true → X.A.handled = none
  frames : X.A.frames = some X.stack
  stk : X.stack = X.outer ∨ (X.stack = X.env :: X.outer ∧ X.env.frame = some X.env.locals)
  exf : ∀ b ∈ X.ex, b ≠ X.env.locals ∧ ∀ x c, X.env.cells.lookup x = some c → c ≠ b
  bs : ∀ b o, X.base.get? b = some o → X.s₀.heap.get? b = some o ∧ X.H₀ b = none
  bsz : X.base.objs.size ≤ X.s₀.heap.objs.size
  noex : ∀ b o, X.base.get? b = some o → b ∉ X.ex
  exfs : ∀ b ∈ X.ex, b ∉ X.fs
  funs : X.s₀.heap.FunFrames X.base X.outer
  frf : ∀ b ∈ X.fs, X.H₀ b = none

structure Inv (X : Cx) (pins : List (Addr × Obj)) (σ : List (Option V)) (H : Hp) (s : Shared) : Prop where
  ok : X.Ok
  os : s.os = X.s₀.os
  bare : AllBare s.gens
  base : Un X.fs X.ex X.H₀ H X.s₀.heap s.heap
  loc : ∃ m, s.heap.Ns X.env.locals m ∧ ∀ (i : Nat) (x : Str) (v : V), X.N[i]? = some x → σ[i]? = some (some v) → Vis X.env.scope x → ∃ u, RelV v u ∧ Look X.env s.heap m x u
  cell : ∀ x c, X.env.cells.lookup x = some c → ∃ v, s.heap.IsCell c v
  free : H X.env.locals = none
  freeC : ∀ x c, X.env.cells.lookup x = some c → H c = none
  pin : ∀ p ∈ X.pn ++ pins, s.heap.get? p.1 = some p.2 ∧ H p.1 = none ∧ p.1 ≠ X.env.locals ∧ p.1 ∉ X.fs ∧ ∀ v, p.2.data ≠ .cell v
  hok : HOk X.prog X.w H s.heap
  len : σ.length = X.N.length

section
variable {X : Cx} {pins : List (Addr × Obj)} {σ : List (Option V)} {H H' : Hp} {s : Shared} {h' : Heap}

theorem Cx.Ok.nofr (ok : X.Ok) {b : Addr} {o : Obj} (e : X.base.get? b = some o) : b ∉ X.fs := fun hb => by
  have := (ok.funs.mem hb).1
  rw [e] at this; cases this
theorem Inv.bs (I : Inv X pins σ H s) : ∀ b o, X.base.get? b = some o → s.heap.get? b = some o ∧ H b = none := fun b o e =>
  ⟨I.base.keep b o (I.ok.bs b o e).1 (I.ok.bs b o e).2 (I.ok.nofr e) (I.ok.noex b o e), I.base.free b o (I.ok.bs b o e).1 (I.ok.bs b o e).2 (I.ok.noex b o e)⟩
theorem Inv.bk (I : Inv X pins σ H s) : ∀ b o, X.base.get? b = some o → s.heap.get? b = some o := fun b o e => (I.bs b o e).1
theorem Inv.mod (I : Inv X pins σ H s) : Mod X.K X.mg X.base := I.ok.mod
theorem Inv.kIn (I : Inv X pins σ H s) : X.K.In s.heap := I.ok.mod.kin.keeps I.bk
theorem Inv.lt (I : Inv X pins σ H s) : X.env.locals < s.heap.objs.size := let ⟨_, hn, _⟩ := I.loc; hn.lt
theorem Inv.sz (I : Inv X pins σ H s) : X.s₀.heap.objs.size ≤ s.heap.objs.size := Nat.le_trans I.ok.above (Nat.le_of_lt I.lt)
theorem Inv.nofs (I : Inv X pins σ H s) {a : Addr} (h : s.heap.objs.size ≤ a) : a ∉ X.fs := fun hb => by
  obtain ⟨_, o, ho, _⟩ := I.ok.funs.mem hb
  exact absurd (Nat.lt_of_lt_of_le (Heap.lt_size ho) (Nat.le_trans I.sz h)) (Nat.lt_irrefl _)
theorem Inv.cne (I : Inv X pins σ H s) : ∀ x c, X.env.cells.lookup x = some c → c ≠ X.env.locals := fun x c e z => by
  obtain ⟨v, o, ho, hd⟩ := I.cell x c e
  obtain ⟨m, ⟨o', es, ep, ho', hd', _⟩, _⟩ := I.loc
  rw [z, ho'] at ho; cases ho; rw [hd'] at hd; cases hd
theorem Inv.funs (I : Inv X pins σ H s) : s.heap.FunFrames X.base X.outer := by
  have all : ∀ (l : List Env), (∀ b ∈ frs l, b ∈ X.fs) → X.s₀.heap.FunFrames X.base l → s.heap.FunFrames X.base l := by
    intro l
    induction l with
    | nil => intro _ _; trivial
    | cons env r ih =>
      intro hs hl
      obtain ⟨hk, ⟨L, o, hf, hn, ho, hd⟩, hr⟩ := hl
      have hL : L ∈ X.fs := hs L (by unfold frs; rw [List.filterMap_cons, hf]; exact List.mem_cons_self)
      obtain ⟨sl, e⟩ := I.base.slot L o ho (I.ok.frf L hL) hL fun z => I.ok.exfs L z hL
      exact ⟨hk, ⟨L, _, hf, hn, e, hd⟩, ih (fun b hb => hs b (by unfold frs; rw [List.filterMap_cons, hf]; exact List.mem_cons_of_mem _ hb)) hr⟩
  exact all X.outer (fun _ hb => hb) I.ok.funs

/-- the frames that run, for a call -/
theorem Inv.stack (I : Inv X pins σ H s) : s.heap.FunFrames X.base X.stack := by
  rcases I.ok.stk with e | ⟨e, hf⟩
  · rw [e]; exact I.funs
  · rw [e]
    obtain ⟨m, hn, _⟩ := I.loc
    refine .cons (by rw [I.ok.kind]; decide) hf hn ?_ I.funs
    exact Heap.get?_none_of_le (Nat.le_trans I.ok.bsz I.ok.above)
theorem Inv.stkSub (I : Inv X pins σ H s) : ∀ b ∈ frs X.stack, b ∈ X.env.locals :: X.fs := fun b hb => by
  rcases I.ok.stk with e | ⟨e, hf⟩
  · rw [e] at hb; exact List.mem_cons_of_mem _ hb
  · rw [e] at hb
    unfold frs at hb
    rw [List.filterMap_cons, hf] at hb
    exact hb
theorem Inv.stkFree (I : Inv X pins σ H s) : ∀ b ∈ frs X.stack, H b = none := fun b hb => by
  rcases List.mem_cons.mp (I.stkSub b hb) with e | hb
  · rw [e]; exact I.free
  · obtain ⟨_, o, ho, _⟩ := I.ok.funs.mem hb
    exact I.base.free b o ho (I.ok.frf b hb) fun z => I.ok.exfs b z hb

/-- THE STEP: the untracked objects but the frame and the records at ch are kept (the callers' frames up to slots), the frame's map is kept, the new abstract heap is held -/
theorem Inv.step {g' : Array GenState} {t' : Nat} {d' : Drawn} {ch : List Addr} (I : Inv X pins σ H s)
    (hch : ∀ b ∈ ch, (b ∈ X.ex ∨ X.s₀.heap.objs.size ≤ b) ∧ b ≠ X.env.locals ∧ (∀ x c, X.env.cells.lookup x = some c → c ≠ b) ∧ ∀ p ∈ X.pn ++ pins, p.1 ≠ b)
    (keep : ∀ b o, b ≠ X.env.locals → b ∉ X.fs → b ∉ ch → s.heap.get? b = some o → H b = none → h'.get? b = some o)
    (slot : ∀ b o, b ≠ X.env.locals → b ∈ X.fs → b ∉ ch → s.heap.get? b = some o → H b = none → ∃ sl, h'.get? b = some { o with slots := sl }) (free : ∀ b o, b ∉ ch → s.heap.get? b = some o → H b = none → H' b = none)
    (there : ∀ b o, b ∉ ch → s.heap.get? b = some o → ∃ o', h'.get? b = some o')
    (tups : ∀ b xs, H b = some (.tup xs) → H' b = some (.tup xs)) (frzs : ∀ b o u, H b = some (.frz o u) → H' b = some (.frz o u)) (tbls : ∀ b ps, H b = some (.tbl ps) → ∃ more, H' b = some (.tbl (ps ++ more)))
    (ns : ∀ m, s.heap.Ns X.env.locals m → h'.Ns X.env.locals m) (hok : HOk X.prog X.w H' h') (hg : AllBare g') :
    Inv X pins σ H' { s with heap := h', gens := g', drawn := d', toks := t' } := by
  have neL : ∀ b o, X.s₀.heap.get? b = some o → b ≠ X.env.locals := fun b o e => Nat.ne_of_lt (Nat.lt_of_lt_of_le (Heap.lt_size e) I.ok.above)
  have neC : ∀ b o, X.s₀.heap.get? b = some o → b ∉ X.ex → b ∉ ch := fun b o e hx hb => by
    rcases (hch b hb).1 with z | z
    · exact hx z
    · exact absurd (Nat.lt_of_lt_of_le (Heap.lt_size e) z) (Nat.lt_irrefl _)
  have cellK : ∀ x c, X.env.cells.lookup x = some c → ∀ v, s.heap.IsCell c v → h'.IsCell c v := fun x c e v ⟨o, ho, hd⟩ => by
    have nch : c ∉ ch := fun z => (hch c z).2.2.1 x c e rfl
    by_cases hc : c ∈ X.fs
    · obtain ⟨sl, q⟩ := slot c o (I.cne x c e) hc nch ho (I.freeC x c e)
      exact ⟨_, q, hd⟩
    · exact ⟨o, keep c o (I.cne x c e) hc nch ho (I.freeC x c e), hd⟩
  refine ⟨I.ok, I.os, hg, ⟨fun b o e n hb hx => ?_, fun b o e n hb hx => ?_, fun b o e n hx => ?_, fun b o e hx => ?_, fun b xs e => tups b xs (I.base.tups b xs e), fun b o xs e => frzs b o xs (I.base.frzs b o xs e), fun b ps e => ?_⟩, ?_, fun x c e => ?_, ?_, fun x c e => ?_, fun p hp => ?_, hok, I.len⟩
  · exact keep b o (neL b o e) hb (neC b o e hx) (I.base.keep b o e n hb hx) (I.base.free b o e n hx)
  · obtain ⟨sl, e1⟩ := I.base.slot b o e n hb hx
    obtain ⟨sl', e2⟩ := slot b _ (neL b o e) hb (neC b o e hx) e1 (I.base.free b o e n hx)
    exact ⟨sl', e2⟩
  · obtain ⟨o', e1⟩ := I.base.there b o e hx
    exact free b o' (neC b o e hx) e1 (I.base.free b o e n hx)
  · obtain ⟨o', e1⟩ := I.base.there b o e hx
    exact there b o' (neC b o e hx) e1
  · obtain ⟨m1, e1⟩ := I.base.tbls b ps e
    obtain ⟨m2, e2⟩ := tbls b _ e1
    exact ⟨m1 ++ m2, by rw [e2, Array.append_assoc]⟩
  · obtain ⟨m, hn, hl⟩ := I.loc
    refine ⟨m, ns m hn, fun i x v e1 e2 e3 => ?_⟩
    obtain ⟨u, r, l⟩ := hl i x v e1 e2 e3
    refine ⟨u, r, ?_⟩
    rcases l with l | ⟨k, c, e, z⟩
    · exact .inl l
    · exact .inr ⟨k, c, e, cellK x c e _ z⟩
  · obtain ⟨v, z⟩ := I.cell x c e
    exact ⟨v, cellK x c e v z⟩
  · obtain ⟨m, ⟨o, _, _, ho, _⟩, _⟩ := I.loc
    exact free _ o (fun z => (hch _ z).2.1 rfl) ho I.free
  · obtain ⟨v, o, ho, hd⟩ := I.cell x c e
    exact free c o (fun z => (hch c z).2.2.1 x c e rfl) ho (I.freeC x c e)
  · obtain ⟨e, n, ne, nf, d⟩ := I.pin p hp
    have nch : p.1 ∉ ch := fun z => (hch p.1 z).2.2.2 p hp rfl
    exact ⟨keep p.1 p.2 ne nf nch e n, free p.1 p.2 nch e n, ne, nf, d⟩
/-- .. where the frame's own object is kept too -/
theorem Inv.un {t' : Nat} (I : Inv X pins σ H s) (u : Un X.fs [] H H' s.heap h') (hok : HOk X.prog X.w H' h') : Inv X pins σ H' { s with heap := h', toks := t' } := by
  obtain ⟨m, ⟨o, es, ep, ho, r⟩, _⟩ := id I.loc
  obtain ⟨sl, hL⟩ := u.any ho I.free (by simp)
  exact I.step (g' := s.gens) (d' := s.drawn) (ch := []) (fun _ z => nomatch z) (fun b o _ hb _ e n => u.keep b o e n hb (by simp)) (fun b o _ hb _ e n => u.slot b o e n hb (by simp)) (fun b o _ e n => u.free b o e n (by simp)) (fun b o _ e => u.there b o e (by simp)) u.tups u.frzs u.tbls (fun m' hm => by
    obtain ⟨o', es', ep', ho', r'⟩ := hm
    rw [ho] at ho'; cases ho'
    exact ⟨_, es', ep', hL, r'⟩) hok I.bare
/-- behind a call (or a comprehension's block): the slots of this frame may have changed too, the records at ch may have turned -/
theorem Inv.call {g' : Array GenState} {t' : Nat} {d' : Drawn} {ch : List Addr} (I : Inv X pins σ H s) (u : Un (frs X.stack) ch H H' s.heap h') (hok : HOk X.prog X.w H' h') (hg : AllBare g')
    (hch : ∀ b ∈ ch, (b ∈ X.ex ∨ X.s₀.heap.objs.size ≤ b) ∧ b ≠ X.env.locals ∧ (∀ x c, X.env.cells.lookup x = some c → c ≠ b) ∧ ∀ p ∈ X.pn ++ pins, p.1 ≠ b) :
    Inv X pins σ H' { s with heap := h', gens := g', drawn := d', toks := t' } := by
  obtain ⟨m, ⟨o, es, ep, ho, r⟩, _⟩ := id I.loc
  obtain ⟨sl, hL⟩ := u.any ho I.free fun z => (hch _ z).2.1 rfl
  exact I.step (ch := ch) hch (fun b o hL hb hc e n => u.keep b o e n (fun z => (List.mem_cons.mp (I.stkSub b z)).elim hL hb) hc) (fun b o _ _ hc e n => u.any e n hc) (fun b o hc e n => u.free b o e n hc) (fun b o hc e => u.there b o e hc) u.tups u.frzs u.tbls (fun m' hm => by
    obtain ⟨o', es', ep', ho', r'⟩ := hm
    rw [ho] at ho'; cases ho'
    exact ⟨_, es', ep', hL, r'⟩) hok hg
/-- an untracked record of ours (an iterator) has turned -/
theorem Inv.turned {t' : Nat} {it : Addr} (I : Inv X pins σ H s) (k : ∀ b o, b ≠ it → s.heap.get? b = some o → h'.get? b = some o) (hn : H it = none) (hL : it ≠ X.env.locals)
    (h1 : it ∈ X.ex ∨ X.s₀.heap.objs.size ≤ it) (h2 : ∀ x c, X.env.cells.lookup x = some c → c ≠ it) (h3 : ∀ p ∈ X.pn ++ pins, p.1 ≠ it) : Inv X pins σ H { s with heap := h', toks := t' } := by
  have nit : ∀ b u, H b = some u → b ≠ it := fun b u e z => by rw [z, hn] at e; cases e
  refine I.step (g' := s.gens) (d' := s.drawn) (ch := [it]) (fun b hb => ?_) (fun b o _ _ hc e _ => k b o (fun z => hc (by simp [z])) e) (fun b o _ _ hc e _ => ⟨o.slots, k b o (fun z => hc (by simp [z])) e⟩) (fun _ _ _ _ n => n)
    (fun b o hc e => ⟨o, k b o (fun z => hc (by simp [z])) e⟩) (fun _ _ e => e) (fun _ _ _ e => e) (fun b ps e => ⟨#[], by rw [e]; simp⟩) (fun m hm => ?_) (fun b u e => ?_) I.bare
  · have e : b = it := by simpa using hb
    subst e
    exact ⟨h1, hL, h2, h3⟩
  · obtain ⟨o, es, ep, ho, r⟩ := hm
    exact ⟨o, es, ep, k _ o (Ne.symm hL) ho, r⟩
  · refine (I.hok b u e).stay (fun c v hc q => k c v ?_ q) (fun _ q => q) fun _ _ q => q
    rcases hc with z | z
    · rw [z]; exact nit b u e
    · exact nit c _ z
theorem Inv.tok (I : Inv X pins σ H s) (t : Nat) : Inv X pins σ H { s with toks := t } := I.un (h' := s.heap) (t' := t) Un.refl I.hok
/-- all objects kept -/
theorem Inv.kept {t' : Nat} (I : Inv X pins σ H s) (k : ∀ b u, s.heap.get? b = some u → h'.get? b = some u) : Inv X pins σ H { s with heap := h', toks := t' } := I.un (Un.kept k) (I.hok.kept k)
/-- a new object laid and tracked -/
theorem Inv.laid {a : Addr} {o : HO} {t' : Nat} (I : Inv X pins σ H s) (k : ∀ b u, s.heap.get? b = some u → h'.get? b = some u) (hp : s.heap.objs.size ≤ a) (new : ObjOk X.prog X.w (upd H a o) h' a o) :
    Inv X pins σ (upd H a o) { s with heap := h', toks := t' } := I.un (Un.laid k hp (I.hok.fresh hp)) (I.hok.laid k hp new)
/-- an object written -/
theorem Inv.write {x e : Addr} {o : HO} {t' : Nat} (I : Inv X pins σ H s) (mu : Mut (H x)) (he : e = x ∨ H e = some (.own x)) (k : ∀ b u, b ≠ e → s.heap.get? b = some u → h'.get? b = some u) (heo : ∃ u, h'.get? e = some u)
    (new : ObjOk X.prog X.w (upd H x o) h' x o) : Inv X pins σ (upd H x o) { s with heap := h', toks := t' } := I.un (Un.write mu he k heo) (I.hok.write mu he k heo new)
/-- forgetting slots, pins -/
theorem Inv.weak {σ' : List (Option V)} (I : Inv X pins σ H s) (hl : σ'.length = σ.length) (w : ∀ (i : Nat) v, σ'[i]? = some (some v) → σ[i]? = some (some v)) : Inv X pins σ' H s :=
  ⟨I.ok, I.os, I.bare, I.base, let ⟨m, hn, hl'⟩ := I.loc; ⟨m, hn, fun i x v e1 e2 e3 => hl' i x v e1 (w i v e2) e3⟩, I.cell, I.free, I.freeC, I.pin, I.hok, hl.trans I.len⟩
theorem Inv.pins_of {pins' : List (Addr × Obj)} (I : Inv X pins σ H s) (h : ∀ p ∈ pins', s.heap.get? p.1 = some p.2 ∧ H p.1 = none ∧ p.1 ≠ X.env.locals ∧ p.1 ∉ X.fs ∧ ∀ v, p.2.data ≠ .cell v) : Inv X pins' σ H s :=
  ⟨I.ok, I.os, I.bare, I.base, I.loc, I.cell, I.free, I.freeC, fun p hp => (List.mem_append.mp hp).elim (fun z => I.pin p (List.mem_append_left _ z)) (h p), I.hok, I.len⟩

theorem nodup_ix {N : List Str} (hN : N.Nodup) {i j : Nat} {x : Str} (a : N[i]? = some x) (b : N[j]? = some x) : i = j := by
  obtain ⟨h1, e1⟩ := List.getElem?_eq_some_iff.mp a
  obtain ⟨h2, e2⟩ := List.getElem?_eq_some_iff.mp b
  exact (List.getElem_inj hN).mp (e1.trans e2.symm)

/-- a name is stored; what changed -/
theorem store_ok2 {M : Model} {A : Around} {E : Value → Shared → Prop} {i : Nat} {x : Str} {v : V} {u : Value} {Q : Unit → Shared → Prop} (I : Inv X pins σ H s) (hN : X.N.Nodup) (hi : X.N[i]? = some x) (hx : Loc X.env.scope x) (r : RelV v u)
    (h : ∀ s', Inv X pins (σ.set i (some v)) H s' → (∃ a, Heap.SameBut a s.heap s'.heap ∧ (a = X.env.locals ∨ X.env.cells.lookup x = some a)) → Q () s') (hf : X.fn x = true ∨ X.env.scope.names.lookup x = some .local := by first | exact .inl rfl | exact .inr rfl | assumption) : wpAny M A (storeName X.env x u) Q E s := by
  obtain ⟨m, hn, hl⟩ := id I.loc
  have hcls : (X.env.scope.kind == .class || (X.env.scope.kind == .module && X.env.locals != X.env.globals)) = false := by rw [I.ok.kind]; rfl
  have hiσ : i < σ.length := by rw [I.len]; exact (List.getElem?_eq_some_iff.mp hi).1
  have cne := I.cne
  have tracked : ∀ {a : Addr} {h' : Heap}, (∃ o, s.heap.get? a = some o ∧ H a = none) → Heap.SameBut a s.heap h' → HOk X.prog X.w H h' := fun {a h'} ha hs b ob e => by
    obtain ⟨_, _, hfree⟩ := ha
    refine (I.hok b ob e).stay (fun c w' hc q => (hs.2 c ?_).trans q) (fun _ q => q) fun _ _ q => q
    rintro rfl
    rcases hc with rfl | hc
    · rw [hfree] at e; cases e
    · rw [hfree] at hc; cases hc
  rcases hx with hk | hk
  · refine wpAny_storeName_local hk hn (fun h' hn' hs => ?_) hcls
    obtain ⟨oL, _, _, hoL, _⟩ := id hn
    refine h _ ⟨I.ok, I.os, I.bare, ⟨fun b o e n hb hx => ?_, fun b o e n hb hx => ?_, I.base.free, fun b o e hx => ?_, I.base.tups, I.base.frzs, I.base.tbls⟩, ⟨_, hn', fun j y v' e1 e2 e3 => ?_⟩, fun y c e => ?_, I.free, I.freeC, fun p hp => ?_, tracked ⟨oL, hoL, I.free⟩ hs, by simpa using I.len⟩ ⟨_, hs, .inl rfl⟩
    · exact (hs.2 b (Nat.ne_of_lt (Nat.lt_of_lt_of_le (Heap.lt_size e) I.ok.above))).trans (I.base.keep b o e n hb hx)
    · obtain ⟨sl, e1⟩ := I.base.slot b o e n hb hx
      exact ⟨sl, (hs.2 b (Nat.ne_of_lt (Nat.lt_of_lt_of_le (Heap.lt_size e) I.ok.above))).trans e1⟩
    · obtain ⟨o', e1⟩ := I.base.there b o e hx
      exact ⟨o', (hs.2 b (Nat.ne_of_lt (Nat.lt_of_lt_of_le (Heap.lt_size e) I.ok.above))).trans e1⟩
    · by_cases hj : j = i
      · subst hj
        rw [hi] at e1; cases e1
        rw [List.getElem?_set_self hiσ] at e2
        cases e2
        exact ⟨u, r, .inl ⟨hk, by simp⟩⟩
      · rw [List.getElem?_set_ne (Ne.symm hj)] at e2
        obtain ⟨u', r', q⟩ := hl j y v' e1 e2 e3
        refine ⟨u', r', ?_⟩
        rcases q with ⟨k, e⟩ | ⟨k, c, e, z⟩
        · refine .inl ⟨k, ?_⟩
          have : y ≠ x := fun e => hj (nodup_ix hN e1 (e ▸ hi))
          simp [this, e]
        · exact .inr ⟨k, c, e, z.sameBut hs (cne y c e)⟩
    · obtain ⟨w', z⟩ := I.cell y c e
      exact ⟨w', z.sameBut hs (cne y c e)⟩
    · obtain ⟨e, n, ne, nf, d⟩ := I.pin p hp
      exact ⟨(hs.2 p.1 ne).trans e, n, ne, nf, d⟩
  · have hfn : X.fn x = true := by
      rcases hf with z | z
      · exact z
      · rw [z] at hk; cases hk
    obtain ⟨c, hc⟩ := I.ok.has x (.inl hk)
    obtain ⟨w', z⟩ := I.cell x c hc
    refine wpAny_storeName_cell I.ok.kind hk hc z (fun h' hc' hs => ?_)
    obtain ⟨oc, hoc, hocd⟩ := id z
    refine h { s with heap := h' } ⟨I.ok, I.os, I.bare, ⟨fun b o e n hb hx => ?_, fun b o e n hb hx => ?_, I.base.free, fun b o e hx => ?_, I.base.tups, I.base.frzs, I.base.tbls⟩, ⟨m, hn.sameBut hs (Ne.symm (cne x c hc)), fun j y v' e1 e2 e3 => ?_⟩, fun y c' e => ?_, I.free, I.freeC, fun p hp => ?_, tracked ⟨oc, hoc, I.freeC x c hc⟩ hs, by simpa using I.len⟩ ⟨c, hs, .inr hc⟩
    · exact (hs.2 b (Nat.ne_of_lt (Nat.lt_of_lt_of_le (Heap.lt_size e) (I.ok.cab x c hfn hc)))).trans (I.base.keep b o e n hb hx)
    · obtain ⟨sl, e1⟩ := I.base.slot b o e n hb hx
      exact ⟨sl, (hs.2 b (Nat.ne_of_lt (Nat.lt_of_lt_of_le (Heap.lt_size e) (I.ok.cab x c hfn hc)))).trans e1⟩
    · obtain ⟨o', e1⟩ := I.base.there b o e hx
      exact ⟨o', (hs.2 b (Nat.ne_of_lt (Nat.lt_of_lt_of_le (Heap.lt_size e) (I.ok.cab x c hfn hc)))).trans e1⟩
    · by_cases hj : j = i
      · subst hj
        rw [hi] at e1; cases e1
        rw [List.getElem?_set_self hiσ] at e2
        cases e2
        exact ⟨u, r, .inr ⟨.inl hk, c, hc, hc'⟩⟩
      · rw [List.getElem?_set_ne (Ne.symm hj)] at e2
        obtain ⟨u', r', q⟩ := hl j y v' e1 e2 e3
        refine ⟨u', r', ?_⟩
        rcases q with q | ⟨k, c', e, z'⟩
        · exact .inl q
        · refine .inr ⟨k, c', e, z'.sameBut hs ?_⟩
          rintro rfl
          exact hj (nodup_ix hN e1 (I.ok.inj _ _ _ e hc ▸ hi))
    · by_cases hcc : c' = c
      · subst hcc; exact ⟨_, hc'⟩
      · obtain ⟨w2, z2⟩ := I.cell y c' e
        exact ⟨w2, z2.sameBut hs hcc⟩
    · obtain ⟨e, n, ne, nf, d⟩ := I.pin p hp
      refine ⟨(hs.2 p.1 ?_).trans e, n, ne, nf, d⟩
      intro q
      rw [q, hoc] at e
      have q' : oc = p.2 := Option.some.inj e
      exact d w' (by rw [← q']; exact hocd)
theorem store_ok {M : Model} {A : Around} {E : Value → Shared → Prop} {i : Nat} {x : Str} {v : V} {u : Value} {Q : Unit → Shared → Prop} (I : Inv X pins σ H s) (hN : X.N.Nodup) (hi : X.N[i]? = some x) (hx : Loc X.env.scope x) (r : RelV v u)
    (h : ∀ s', Inv X pins (σ.set i (some v)) H s' → Q () s') (hf : X.fn x = true ∨ X.env.scope.names.lookup x = some .local := by first | exact .inl rfl | exact .inr rfl | assumption) : wpAny M A (storeName X.env x u) Q E s :=
  store_ok2 I hN hi hx r (fun s' I' _ => h s' I') hf
/-- behind a call or a block, the state as it is -/
theorem Inv.call' {s' : Shared} {ch : List Addr} (I : Inv X pins σ H s) (ho : s'.os = s.os) (u : Un (frs X.stack) ch H H' s.heap s'.heap) (hok : HOk X.prog X.w H' s'.heap) (hg : AllBare s'.gens)
    (hch : ∀ b ∈ ch, (b ∈ X.ex ∨ X.s₀.heap.objs.size ≤ b) ∧ b ≠ X.env.locals ∧ (∀ x c, X.env.cells.lookup x = some c → c ≠ b) ∧ ∀ p ∈ X.pn ++ pins, p.1 ≠ b) : Inv X pins σ H' s' := by
  obtain ⟨h', g', d', t', o'⟩ := s'
  have e : o' = s.os := ho
  subst e
  exact I.call (g' := g') (t' := t') (d' := d') u hok hg hch
end

/-! ### the judgements -/
/-- an exception: its class, its own dict's address (where it has one), the abstract heap behind it -/
abbrev XK := Value → Option Addr → Hp → Prop
abbrev St := List (Option V)
abbrev VK := V → Hp → Prop
/-- an expression's reading; a test's; an argument list's -/
abbrev TE := St → Hp → VK → Prop
abbrev TT := St → Hp → (Bool → Hp → Prop) → Prop
abbrev TA := St → Hp → (List V → Hp → Prop) → Prop
/-- what is wanted behind a statement -/
structure Ends where
  nx : St → Hp → Prop
  rt : VK
  bk : St → Hp → Prop := fun _ _ => False
  ct : St → Hp → Prop := fun _ _ => False
abbrev TS := Ends → St → Hp → Prop

def EP (X : Cx) (pins : List (Addr × Obj)) (σ : St) (Q : VK) (u : Value) (s' : Shared) : Prop := ∃ v H', Inv X pins σ H' s' ∧ RelV v u ∧ Q v H'
def TP (X : Cx) (pins : List (Addr × Obj)) (σ : St) (Q : Bool → Hp → Prop) (b : Bool) (s' : Shared) : Prop := ∃ H', Inv X pins σ H' s' ∧ Q b H'
def AP (X : Cx) (pins : List (Addr × Obj)) (σ : St) (Q : List V → Hp → Prop) (us : List Value) (s' : Shared) : Prop := ∃ vs H', Inv X pins σ H' s' ∧ Vals vs us ∧ Q vs H'
def SP (X : Cx) (pins : List (Addr × Obj)) (D : Ends) (f : Flow) (s' : Shared) : Prop :=
  match f with
  | .next => ∃ σ' H', Inv X pins σ' H' s' ∧ D.nx σ' H'
  | .brk => ∃ σ' H', Inv X pins σ' H' s' ∧ D.bk σ' H'
  | .cont => ∃ σ' H', Inv X pins σ' H' s' ∧ D.ct σ' H'
  | .ret u => ∃ v σ' H', Inv X pins σ' H' s' ∧ RelV v u ∧ D.rt v H'

def PE (X : Cx) (e : Expr) (t : TE) : Prop :=
  ∀ (pins : List (Addr × Obj)) (s : Shared) (σ : St) (H : Hp) (Q : VK), Inv X pins σ H s → t σ H Q → wpAny (model X.prog X.w) X.A (eval e X.env) (EP X pins σ Q) X.xe s
def PT (X : Cx) (e : Expr) (t : TT) : Prop :=
  ∀ (pins : List (Addr × Obj)) (s : Shared) (σ : St) (H : Hp) (Q : Bool → Hp → Prop), Inv X pins σ H s → t σ H Q → wpAny (model X.prog X.w) X.A (isTrue e X.env (eval e X.env)) (TP X pins σ Q) X.xe s
/-- a test whatever its 'whole' is (and, or) -/
def PW (X : Cx) (e : Expr) (t : TT) : Prop :=
  ∀ (whole : Sem Value) (pins : List (Addr × Obj)) (s : Shared) (σ : St) (H : Hp) (Q : Bool → Hp → Prop), Inv X pins σ H s → t σ H Q → wpAny (model X.prog X.w) X.A (isTrue e X.env whole) (TP X pins σ Q) X.xe s
theorem PW.pt {X : Cx} {e : Expr} {t : TT} (h : PW X e t) : PT X e t := h _
/-- an argument list (no star), from the left -/
def PA (X : Cx) (es : List Expr) (t : TA) : Prop :=
  ∀ (pos : Pos) (pins : List (Addr × Obj)) (s : Shared) (σ : St) (H : Hp) (Q : List V → Hp → Prop), Inv X pins σ H s → t σ H Q → wpAny (model X.prog X.w) X.A (spliced (backTo pos (starEach es X.env))) (AP X pins σ Q) X.xe s
def PS (X : Cx) (st : Stmt) (t : TS) : Prop :=
  ∀ (pins : List (Addr × Obj)) (s : Shared) (σ : St) (H : Hp) (D : Ends), Inv X pins σ H s → t D σ H → wpAny (model X.prog X.w) X.A (exec st X.env) (SP X pins D) X.xe s
def PSs (X : Cx) (st : List Stmt) (t : TS) : Prop :=
  ∀ (pins : List (Addr × Obj)) (s : Shared) (σ : St) (H : Hp) (D : Ends), Inv X pins σ H s → t D σ H → wpAny (model X.prog X.w) X.A (execs st X.env) (SP X pins D) X.xe s
/-- weaken the end -/
theorem thn {α : Type} {t : Sem α} {Q Q' : α → Shared → Prop} {M : Model} {A : Around} {E : Value → Shared → Prop} {s : Shared} (h : wpAny M A t Q E s) (hQ : ∀ a s, Q a s → Q' a s) : wpAny M A t Q' E s := wpAny_mono h hQ fun _ _ x => x
end L2

namespace L2
open PySem PySem.Spec PyProof.Rows
section
variable {X : Cx}


/-! ### names and constants -/
def tVar (i : Nat) : TE := fun σ H Q => ∃ v, σ[i]? = some (some v) ∧ Q v H
def tC (v : V) : TE := fun _ H Q => Q v H
theorem pe_var {i : Nat} {x : Str} {pos : Pos} (hN : X.N[i]? = some x) (hv : Vis X.env.scope x) (hd : (x == ("__debug__" : Str)) = false := by decide) (hcd : (x == ("__classdict__" : Str)) = false := by decide) : PE X (.Name x pos) (tVar i) := by
  intro pins s σ H Q I h
  obtain ⟨v, e, h⟩ := h
  obtain ⟨m, hn, hl⟩ := I.loc
  obtain ⟨u, r, l⟩ := hl i x v hN e hv
  have fin : EP X pins σ Q u s := ⟨v, H, I, r, h⟩
  rcases l with ⟨hk, hm⟩ | ⟨hk, c, hc, hcell⟩
  · exact wpAny_Name (wpAny_loadName_local I.ok.kind hk hn hm fin) hd
  · rcases hk with hk | hk
    · exact wpAny_Name (wpAny_loadName_cell I.ok.kind hk hc hcell fin) hd
    · exact wpAny_Name (wpAny_loadName_free I.ok.kind hk hc hcell fin hcd) hd
theorem pe_int {i j pos} : PE X (.Constant (.int i) j pos) (tC (.int i)) := fun _ _ _ H _ I h => wpAny_Constant_int ⟨.int i, H, I.tok _, ⟨_, rfl⟩, h⟩
theorem pe_bl {b j pos} : PE X (.Constant (.bool b) j pos) (tC (.bl b)) := fun _ _ _ H _ I h => Constant_bool ⟨.bl b, H, I, rfl, h⟩
theorem pe_non {j pos} : PE X (.Constant .none j pos) (tC .non) := fun _ _ _ H _ I h => Constant_none ⟨.non, H, I, rfl, h⟩
theorem pe_str {x j pos} : PE X (.Constant (.str x) j pos) (tC (.str x)) := fun _ _ _ H _ I h => Calls.Constant_str ⟨.str x, H, I.tok _, ⟨_, rfl⟩, h⟩

/-- a global name of the def -/
def Gl (X : Cx) (x : Str) : Prop := X.env.kindOf x = some .globalImplicit
theorem ld_glob {E : Value → Shared → Prop} {pins : List (Addr × Obj)} {s : Shared} {σ : St} {H : Hp} {x : Str} {u : Value} {pos : Pos} {Q : Value → Shared → Prop} (I : Inv X pins σ H s) (hg : Gl X x) (hm : X.mg x = some u) (h : Q u s)
    (hd : (x == ("__debug__" : Str)) = false := by decide) : wpAny (model X.prog X.w) X.A (eval (.Name x pos) X.env) Q E s :=
  Calls.Name_function_global I.ok.kind hg (Calls.loadGlobal_global (by rw [I.ok.glob]; exact I.mod.glob.keeps I.bk) hm h) hd
theorem ld_blt {E : Value → Shared → Prop} {pins : List (Addr × Obj)} {s : Shared} {σ : St} {H : Hp} {x : Str} {u : Value} {pos : Pos} {Q : Value → Shared → Prop} (I : Inv X pins σ H s) (hg : Gl X x) (hm : X.mg x = none) (hv : bootBuiltins x = some u) (h : Q u s)
    (hn : x ≠ "__name__" := by decide) (hd : (x == ("__debug__" : Str)) = false := by decide) : wpAny (model X.prog X.w) X.A (eval (.Name x pos) X.env) Q E s := by
  obtain ⟨mb, h1, h2⟩ := I.mod.blt
  exact Calls.Name_function_global I.ok.kind hg (Calls.loadGlobal_builtin (by rw [I.ok.glob]; exact I.mod.glob.keeps I.bk) hm (by rw [I.ok.blt]; exact h1.keeps I.bk) ((h2 x hn).trans hv) h) hd
/-- a module's constant, a class, a function, as a value -/
theorem pe_glob {x : Str} {v : V} {u : Value} {pos : Pos} (hg : Gl X x) (hm : X.mg x = some u) (r : RelV v u) (hd : (x == ("__debug__" : Str)) = false := by decide) : PE X (.Name x pos) (tC v) :=
  fun _ _ _ H _ I h => ld_glob I hg hm ⟨v, H, I, r, h⟩ hd
theorem pe_bltn {x : Str} {v : V} {u : Value} {pos : Pos} (hg : Gl X x) (hm : X.mg x = none) (hv : bootBuiltins x = some u) (r : RelV v u) (hn : x ≠ "__name__" := by decide) (hd : (x == ("__debug__" : Str)) = false := by decide) : PE X (.Name x pos) (tC v) :=
  fun _ _ _ H _ I h => ld_blt I hg hm hv ⟨v, H, I, r, h⟩ hn hd

/-! ### arithmetic -/
variable {a b : Expr} {ta tb : TE} {pos : Pos}

/-! ### comparisons -/
/-- a comparison as a value, as a test -/
def tB (t : TE) : TT := fun σ H Q => t σ H fun x H1 => ∃ c, x = .bl c ∧ Q c H1
/-- an expression whose value is a bool, as a test -/
theorem pt_val {e : Expr} {t : TE} (h : PE X e t) (he : ∀ whole, isTrue e X.env whole = (do let v ← whole; standAt e.pos; holding [v] (truthy v)) := by intro _; rfl) : PT X e (tB t) := by
  intro pins s σ H Q I hw
  refine isTrue_plain (thn (h pins s σ H _ I hw) fun v s1 ⟨x, H1, I1, r1, q1⟩ => ?_) (he _)
  obtain ⟨d, rfl, q⟩ := q1
  cases r1
  exact wpAny_truthy_bool ⟨H1, I1, q⟩

/-! ### and, or, not -/
variable {tA tB' : TT} {rest : List Expr}
def tAnd (t u : TT) : TT := fun σ H Q => t σ H fun c H1 => if c = true then u σ H1 Q else Q false H1
def tOr (t u : TT) : TT := fun σ H Q => t σ H fun c H1 => if c = true then Q true H1 else u σ H1 Q
def tNot (t : TT) : TT := fun σ H Q => t σ H fun c H1 => Q (!c) H1
theorem pw_and1 (ha : PT X a tA) : PW X (.BoolOp .And [a] pos) tA := by
  intro wh pins s σ H Q I h
  refine isTrue_and (thn (ha pins s σ H Q I h) fun c s1 e => ?_)
  cases c with
  | true => exact isTrue_and_nil e
  | false => exact e
theorem pw_or1 (ha : PT X a tA) : PW X (.BoolOp .Or [a] pos) tA := by
  intro wh pins s σ H Q I h
  refine isTrue_or (thn (ha pins s σ H Q I h) fun c s1 e => ?_)
  cases c with
  | false => exact isTrue_or_nil e
  | true => exact e
theorem pw_and (ha : PT X a tA) (hb : PW X (.BoolOp .And (b :: rest) pos) tB') : PW X (.BoolOp .And (a :: b :: rest) pos) (tAnd tA tB') := by
  intro wh pins s σ H Q I h
  refine isTrue_and (thn (ha pins s σ H _ I h) fun c s1 ⟨H1, I1, q1⟩ => ?_)
  cases c with
  | true => exact hb wh pins s1 σ H1 Q I1 q1
  | false => exact ⟨H1, I1, q1⟩
theorem pw_or (ha : PT X a tA) (hb : PW X (.BoolOp .Or (b :: rest) pos) tB') : PW X (.BoolOp .Or (a :: b :: rest) pos) (tOr tA tB') := by
  intro wh pins s σ H Q I h
  refine isTrue_or (thn (ha pins s σ H _ I h) fun c s1 ⟨H1, I1, q1⟩ => ?_)
  cases c with
  | true => exact ⟨H1, I1, q1⟩
  | false => exact hb wh pins s1 σ H1 Q I1 q1
theorem pt_not (ha : PT X a tA) : PT X (.UnaryOp .Not a pos) (tNot tA) := by
  intro pins s σ H Q I h
  exact isTrue_not (ha pins s σ H (fun c H1 => Q (!c) H1) I h)
/-- .. as values (bools) -/
def tAndV (ta tb : TE) : TE := fun σ H Q => ta σ H fun x H1 => ∃ c, x = .bl c ∧ if c = true then tb σ H1 Q else Q (.bl false) H1
def tNotV (ta : TE) : TE := fun σ H Q => ta σ H fun x H1 => ∃ c, x = .bl c ∧ Q (.bl (!c)) H1
theorem pe_one {op} {t : TE} (h : PE X a t) : PE X (.BoolOp op [a] pos) t := fun pins s σ H Q I hw => BoolOp_one (h pins s σ H Q I hw)
theorem pe_and (ha : PE X a ta) (hb : PE X (.BoolOp .And (b :: rest) pos) tb) : PE X (.BoolOp .And (a :: b :: rest) pos) (tAndV ta tb) := by
  intro pins s σ H Q I h
  refine BoolOp_and (thn (ha pins s σ H _ I h) fun v s1 ⟨x, H1, I1, r1, q1⟩ => ?_)
  obtain ⟨c, rfl, q1⟩ := q1
  cases r1
  refine wpAny_truthy_bool ?_
  cases c with
  | true => exact hb pins s1 σ H1 Q I1 q1
  | false => exact ⟨.bl false, H1, I1, rfl, q1⟩
theorem pe_not (ha : PE X a ta) : PE X (.UnaryOp .Not a pos) (tNotV ta) := by
  intro pins s σ H Q I h
  refine UnaryOp_ (thn (ha pins s σ H _ I h) fun v s1 ⟨x, H1, I1, r1, q1⟩ => ?_)
  obtain ⟨c, rfl, q1⟩ := q1
  cases r1
  exact not_of (wpAny_truthy_bool ⟨.bl (!c), H1, I1, rfl, q1⟩)
/-- a if t else b -/
def tIf (t : TT) (ta tb : TE) : TE := fun σ H Q => t σ H fun c H1 => if c = true then ta σ H1 Q else tb σ H1 Q
theorem pe_ifExp {c : Expr} (hc : PT X c tA) (ha : PE X a ta) (hb : PE X b tb) : PE X (.IfExp c a b pos) (tIf tA ta tb) := by
  intro pins s σ H Q I h
  refine wpAny_IfExp (thn (hc pins s σ H _ I h) fun d s1 ⟨H1, I1, q1⟩ => ?_)
  cases d with
  | true => exact ha pins s1 σ H1 Q I1 q1
  | false => exact hb pins s1 σ H1 Q I1 q1
end
end L2

namespace L2
open PySem PySem.Spec PyProof.Rows

/-! ### a list, a tuple that is read: tracked, frozen, or an object of the module -/
def SqL (K : PySem.W.Frag) (H : Hp) (a : Addr) (xs : List V) : Prop :=
  Rd H a (.lst xs) ∨
    ∃ (o : Obj) (its : Array Value) (n : Nat), K.lookup a = some o ∧ o.cls = .type "list" ∧ o.dict = none ∧ o.data = .seq its n ∧ its.size ≤ sizeLine ∧ Vals xs its.toList
def SqT (K : PySem.W.Frag) (H : Hp) (a : Addr) (xs : List V) : Prop :=
  Rd H a (.tup xs) ∨
    ∃ (o : Obj) (its : Array Value) (n : Nat), K.lookup a = some o ∧ o.cls = .type "tuple" ∧ o.data = .seq its n ∧ its.size ≤ sizeLine ∧ Vals xs its.toList
def absV : Value → Option V
  | .none => some .non
  | .bool b => some (.bl b)
  | .int i _ => some (.int i)
  | .str x _ => some (.str x)
  | .bytes b _ => some (.byt b)
  | .float b _ => some (.flt b)
  | .ref a => some (.ref a)
  | .type n => some (.ty n)
  | _ => none
theorem RelV.abs {x : V} {u : Value} (r : RelV x u) : absV u = some x := by
  cases x with
  | non => cases r; rfl
  | bl _ => cases r; rfl
  | int _ => obtain ⟨t, rfl⟩ := r; rfl
  | str _ => obtain ⟨t, rfl⟩ := r; rfl
  | byt _ => obtain ⟨t, rfl⟩ := r; rfl
  | flt _ => obtain ⟨t, rfl⟩ := r; rfl
  | ref _ => cases r; rfl
  | ty _ => cases r; rfl
theorem RelV.inj {x y : V} {u : Value} (r : RelV x u) (q : RelV y u) : x = y := Option.some.inj (r.abs.symm.trans q.abs)
theorem Vals.inj : ∀ {xs ys : List V} {us : List Value}, Vals xs us → Vals ys us → xs = ys
  | _, _, _, .nil, .nil => rfl
  | _, _, _, .cons r t, .cons r' t' => by rw [r.inj r', Vals.inj t t']
section
variable {X : Cx} {pins : List (Addr × Obj)} {σ : St} {H : Hp} {s : Shared} {a : Addr} {xs ys : List V}
theorem SqL.of {K : PySem.W.Frag} (h : H a = some (.lst xs)) : SqL K H a xs := .inl (.inl h)
theorem SqT.of {K : PySem.W.Frag} (h : H a = some (.tup xs)) : SqT K H a xs := .inl (.inl h)
theorem Inv.list (I : Inv X pins σ H s) (h : SqL X.K H a xs) : ∃ its : List Value, Vals xs its ∧ PlainL s.heap a its.toArray ∧ xs.length ≤ sizeLine := by
  rcases h with h | ⟨o, its, n, hk, hc, hd, hs, hz, r⟩
  · obtain ⟨z, its, n, r, e⟩ := h.ok I.hok
    exact ⟨its, r, ⟨_, n, e, rfl, rfl, rfl⟩, z⟩
  · refine ⟨its.toList, r, ⟨o, n, I.kIn a o hk, hc, hd, by simpa using hs⟩, ?_⟩
    have e := r.length
    simp only [Array.length_toList] at e
    omega
theorem Inv.tuple (I : Inv X pins σ H s) (h : SqT X.K H a xs) : ∃ its : List Value, Vals xs its ∧ IsTup s.heap a its.toArray ∧ xs.length ≤ sizeLine := by
  rcases h with h | ⟨o, its, n, hk, hc, hs, hz, r⟩
  · obtain ⟨z, its, r, p⟩ := h.ok I.hok
    exact ⟨its, r, p, z⟩
  · refine ⟨its.toList, r, ⟨o, I.kIn a o hk, hc, n, by simpa using hs⟩, ?_⟩
    have e := r.length
    simp only [Array.length_toList] at e
    omega
theorem Inv.list_inj (I : Inv X pins σ H s) (h : SqL X.K H a xs) (h' : SqL X.K H a ys) : xs = ys := by
  obtain ⟨its, r, ⟨o, n, e, _, _, d⟩, _⟩ := I.list h
  obtain ⟨its', r', ⟨o', n', e', _, _, d'⟩, _⟩ := I.list h'
  rw [e] at e'; cases e'
  rw [d] at d'
  injection d' with d1 _
  have : its = its' := by simpa using congrArg Array.toList d1
  subst this
  exact r.inj r'
theorem Inv.tuple_inj (I : Inv X pins σ H s) (h : SqT X.K H a xs) (h' : SqT X.K H a ys) : xs = ys := by
  obtain ⟨its, r, ⟨o, e, _, n, d⟩, _⟩ := I.tuple h
  obtain ⟨its', r', ⟨o', e', _, n', d'⟩, _⟩ := I.tuple h'
  rw [e] at e'; cases e'
  rw [d] at d'
  injection d' with d1 _
  have : its = its' := by simpa using congrArg Array.toList d1
  subst this
  exact r.inj r'
end

/-! ### another wish about exceptions -/
abbrev Cx.wish (X : Cx) (E : Value → Shared → Prop) : Cx := { X with xe := E }
/-- no exception leaves -/
abbrev Cx.nox (X : Cx) : Cx := X.wish fun _ _ => False
theorem Cx.Ok.wish {X : Cx} (ok : X.Ok) (E : Value → Shared → Prop) : (X.wish E).Ok :=
  ⟨ok.mod, ok.kind, ok.glob, ok.blt, ok.above, ok.inj, ok.has, ok.cab, ok.hd, ok.frames, ok.stk, ok.exf, ok.bs, ok.bsz, ok.noex, ok.exfs, ok.funs, ok.frf⟩
theorem Cx.Ok.unwish {X : Cx} {E : Value → Shared → Prop} (ok : (X.wish E).Ok) : X.Ok :=
  ⟨ok.mod, ok.kind, ok.glob, ok.blt, ok.above, ok.inj, ok.has, ok.cab, ok.hd, ok.frames, ok.stk, ok.exf, ok.bs, ok.bsz, ok.noex, ok.exfs, ok.funs, ok.frf⟩
section
variable {X : Cx} {pins : List (Addr × Obj)} {σ : St} {H : Hp} {s : Shared} {E : Value → Shared → Prop}
theorem Inv.wish (I : Inv X pins σ H s) (E : Value → Shared → Prop) : Inv (X.wish E) pins σ H s := ⟨I.ok.wish E, I.os, I.bare, I.base, I.loc, I.cell, I.free, I.freeC, I.pin, I.hok, I.len⟩
theorem Inv.unwish (I : Inv (X.wish E) pins σ H s) : Inv X pins σ H s := ⟨I.ok.unwish, I.os, I.bare, I.base, I.loc, I.cell, I.free, I.freeC, I.pin, I.hok, I.len⟩
theorem SP.unwish {D : Ends} {f : Flow} {s' : Shared} (h : SP (X.wish E) pins D f s') : SP X pins D f s' := by
  cases f with
  | next => obtain ⟨σ', H', I, q⟩ := h; exact ⟨σ', H', I.unwish, q⟩
  | brk => obtain ⟨σ', H', I, q⟩ := h; exact ⟨σ', H', I.unwish, q⟩
  | cont => obtain ⟨σ', H', I, q⟩ := h; exact ⟨σ', H', I.unwish, q⟩
  | ret u => obtain ⟨v, σ', H', I, r, q⟩ := h; exact ⟨v, σ', H', I.unwish, r, q⟩
theorem PSs.nox {st : List Stmt} {t : TS} (h : PSs X.nox st t) : PSs X st t := fun pins s σ H D I hw =>
  wpAny_mono (h pins s σ H D (I.wish _) hw) (fun _ _ q => q.unwish) fun _ _ z => False.elim z
end

/-! ### blocks and small statements -/
section
variable {X : Cx} {st : Stmt} {rest : List Stmt} {t u : TS} {e : Expr} {te : TE} {pos : Pos}
def tNext : TS := fun D σ H => D.nx σ H
def tSeq (t u : TS) : TS := fun D σ H => t { D with nx := u D } σ H
theorem pss_nil : PSs X [] tNext := fun _ _ σ H _ I h => wpAny_execs_nil ⟨σ, H, I, h⟩
theorem pss_cons (h1 : PS X st t) (h2 : PSs X rest u) : PSs X (st :: rest) (tSeq t u) := by
  intro pins s σ H D I h
  refine wpAny_execs_cons (thn (h1 pins s σ H { D with nx := u D } I h) fun f s1 q => ?_)
  cases f with
  | next =>
    obtain ⟨σ', H', I', q⟩ := q
    exact h2 pins s1 σ' H' D I' q
  | ret v => exact q
  | brk => exact q
  | cont => exact q
theorem pss_one (h1 : PS X st t) : PSs X [st] t := by
  intro pins s σ H D I h
  refine wpAny_execs_cons (thn (h1 pins s σ H D I h) fun f s1 q => ?_)
  cases f with
  | next => exact wpAny_execs_nil q
  | ret v => exact q
  | brk => exact q
  | cont => exact q
/-- in a def's body nothing is shown -/
theorem Inv.quiet {pins : List (Addr × Obj)} {σ : St} {H : Hp} {s : Shared} (I : Inv X pins σ H s) : interactive X.env = false := by simp [interactive, I.ok.kind]
/-- an expression whose value is dropped -/
def tDrop (te : TE) : TS := fun D σ H => te σ H fun _ H1 => D.nx σ H1
theorem ps_expr (he : PE X e te) (hs : swapsWith e none pos.line X.env = pure false := by rfl) : PS X (.Expr e pos) (tDrop te) := by
  intro pins s σ H D I h
  exact wpAny_Expr_any (thn (he pins s σ H _ I h) fun v s1 ⟨x, H1, I1, r1, q1⟩ => ⟨σ, H1, I1, q1⟩) I.quiet hs
def tRet (te : TE) : TS := fun D σ H => te σ H D.rt
theorem ps_ret (he : PE X e te) : PS X (.Return (some e) pos) (tRet te) := by
  intro pins s σ H D I h
  exact wpAny_Return_some (thn (he pins s σ H _ I h) fun v s1 ⟨x, H1, I1, r1, q1⟩ => ⟨x, σ, H1, I1, r1, q1⟩)
def tIfS (c : TT) (t u : TS) : TS := fun D σ H => c σ H fun b H1 => if b = true then t D σ H1 else u D σ H1
theorem ps_if {c : Expr} {a b : List Stmt} {tc : TT} (hc : PT X c tc) (ha : PSs X a t) (hb : PSs X b u) : PS X (.If c a b pos) (tIfS tc t u) := by
  intro pins s σ H D I h
  refine wpAny_If (thn (hc pins s σ H _ I h) fun d s1 ⟨H1, I1, q1⟩ => ?_)
  cases d with
  | true => exact ha pins s1 σ H1 D I1 q1
  | false => exact hb pins s1 σ H1 D I1 q1
/-- code that the proof never comes to -/
def tNever : TS := fun _ _ _ => False
theorem ps_never : PS X st tNever := fun _ _ _ _ _ _ h => h.elim
end

/-! ### targets -/
abbrev TG := V → St → Hp → (St → Hp → Prop) → Prop
def PG (X : Cx) (target : Expr) (t : TG) : Prop :=
  ∀ (pins : List (Addr × Obj)) (s : Shared) (σ : St) (H : Hp) (v : V) (u : Value) (Q : St → Hp → Prop), Inv X pins σ H s → RelV v u → t v σ H Q →
    wpAny (model X.prog X.w) X.A (assign target X.env u) (fun _ s' => ∃ σ' H', Inv X pins σ' H' s' ∧ Q σ' H') X.xe s
/-- o[i] = v, by values -/
abbrev TSet := V → V → V → Hp → (Hp → Prop) → Prop
def PSet (X : Cx) (t : TSet) : Prop :=
  ∀ (pins : List (Addr × Obj)) (s : Shared) (σ : St) (H : Hp) (o i v : V) (ov iv u : Value) (Q : Hp → Prop), Inv X pins σ H s → RelV o ov → RelV i iv → RelV v u → t o i v H Q →
    wpAny (model X.prog X.w) X.A (setItem ov iv u) (fun _ s' => ∃ H', Inv X pins σ H' s' ∧ Q H') X.xe s
/-- a op= b, by values -/
abbrev TIp := V → V → Hp → VK → Prop
def PIp (X : Cx) (op : Operator) (t : TIp) : Prop :=
  ∀ (pins : List (Addr × Obj)) (s : Shared) (σ : St) (H : Hp) (x y : V) (v u : Value) (Q : VK), Inv X pins σ H s → RelV x v → RelV y u → t x y H Q →
    wpAny (model X.prog X.w) X.A (inplaceOp op v u) (EP X pins σ Q) X.xe s
section
variable {X : Cx} {pos : Pos}
def gName (i : Nat) : TG := fun v σ H Q => Q (σ.set i (some v)) H
theorem pg_name {i : Nat} {x : Str} (hN : X.N.Nodup) (hi : X.N[i]? = some x) (hx : Loc X.env.scope x) (hf : X.fn x = true ∨ X.env.scope.names.lookup x = some .local := by first | exact .inl rfl | exact .inr rfl | assumption) : PG X (.Name x pos) (gName i) := by
  intro pins s σ H v u Q I r h
  exact wpAny_assign_Name (store_ok I hN hi hx r (fun s' I' => ⟨_, H, I', h⟩) hf)
/-- o[i] = .. -/
def gSub (to ti : TE) (t : TSet) : TG := fun v σ H Q => to σ H fun o H1 => ti σ H1 fun i H2 => t o i v H2 fun H3 => Q σ H3
theorem pg_sub {o i : Expr} {to ti : TE} {t : TSet} (ho : PE X o to) (hi : PE X i ti) (hs : PSet X t)
    (ha : ∀ v, assign (.Subscript o i pos) X.env v = (do
      let ov ← holding [v] (eval o X.env)
      let iv ← holding [v, ov] (eval i X.env)
      standAt pos
      holding [v, ov, iv] (setItem ov iv v)
      release [v, ov, iv] []) := by intro _; rfl) : PG X (.Subscript o i pos) (gSub to ti t) := by
  intro pins s σ H v u Q I r h
  rw [ha]
  refine wpAny_bind (wpAny_holding (thn (ho pins s σ H _ I h) fun ov s1 ⟨x, H1, I1, r1, q1⟩ => ?_))
  refine wpAny_bind (wpAny_holding (thn (hi pins s1 σ H1 _ I1 q1) fun iv s2 ⟨y, H2, I2, r2, q2⟩ => ?_))
  refine wpAny_bind (wpAny_standAt (wpAny_bind (wpAny_holding (thn (hs pins s2 σ H2 x y v ov iv u _ I2 r1 r2 r q2) fun _ s3 ⟨H3, I3, q3⟩ => ?_))))
  exact wpAny_release ⟨σ, H3, I3, q3⟩
/-- target = value -/
def tAsg (te : TE) (g : TG) : TS := fun D σ H => te σ H fun x H1 => g x σ H1 D.nx
theorem ps_asg {tg e : Expr} {te : TE} {g : TG} (he : PE X e te) (hg : PG X tg g) (hs : swapsWithSole [tg] e pos.line X.env = pure false := by rfl) (hw : swappedStores [tg] e X.env = pure none := by rfl)
    (h1 : (assignEach [tg] X.env).map (·.2) = [assign tg X.env] := by rfl) : PS X (.Assign [tg] e pos) (tAsg te g) := by
  intro pins s σ H D I h
  refine wpAny_Assign_stores (thn (he pins s σ H _ I h) fun v s1 ⟨x, H1, I1, r1, q1⟩ => ?_) hs hw
  rw [h1]
  exact thn (hg pins s1 σ H1 x v _ I1 r1 q1) fun _ s2 q => q
/-- name = value -/
theorem ps_set {i : Nat} {x : Str} {e : Expr} {te : TE} {pos' : Pos} (hN : X.N.Nodup) (hi : X.N[i]? = some x) (hx : Loc X.env.scope x) (he : PE X e te) (hs : swapsWith e (some (.Name x pos')) pos.line X.env = pure false := by rfl) (hf : X.fn x = true ∨ X.env.scope.names.lookup x = some .local := by first | exact .inl rfl | exact .inr rfl | assumption) :
    PS X (.Assign [.Name x pos'] e pos) (tAsg te (gName i)) := by
  intro pins s σ H D I h
  refine wpAny_Assign_Name (thn (he pins s σ H _ I h) fun v s1 ⟨y, H1, I1, r1, q1⟩ => ?_) hs
  exact store_ok I1 hN hi hx r1 (fun s2 I2 => ⟨_, H1, I2, q1⟩) hf
/-- a, b = x, y with plain local names: stored from the right; the pair itself is not tracked (the opening rows as in PyProof/Rows/TupAssign.lean:23) -/
def tPar (i j : Nat) (ta : TA) : TS := fun D σ H => ta σ H fun vs H1 => ∃ v w, vs = [v, w] ∧ D.nx ((σ.set i (some v)).set j (some w)) H1
theorem ps_par {i j : Nat} {x y : Str} {a b : Expr} {ta : TA} {px py pt : Pos} {kt k2 pt2} (hc : X.calm = true) (hN : X.N.Nodup) (hi : X.N[i]? = some x) (hj : X.N[j]? = some y) (hij : i ≠ j)
    (hx : X.env.scope.names.lookup x = some .local) (hy : X.env.scope.names.lookup y = some .local) (ha : PA X [a, b] ta)
    (hw : swappedStores [.Tuple [.Name x px, .Name y py] kt pt] (.Tuple [a, b] k2 pt2) X.env = pure (some [x, y]))
    (hs : swapsWithSole [.Tuple [.Name x px, .Name y py] kt pt] (.Tuple [a, b] k2 pt2) pos.line X.env = pure false := by rfl) :
    PS X (.Assign [.Tuple [.Name x px, .Name y py] kt pt] (.Tuple [a, b] k2 pt2) pos) (tPar i j ta) := by
  intro pins s σ H D I h
  rw [exec_Assign_arm]
  refine wpAny_bind (wpAny_standAt ?_)
  rw [hs]
  refine wpAny_bind (wpAny_pure ?_)
  rw [if_neg (by decide)]
  refine wpAny_bind (Tuple_ (thn (ha _ pins s σ H _ I h) fun us s1 ⟨vs, H1, I1, r1, q1⟩ => ?_))
  obtain ⟨v, w, e1, q1⟩ := q1
  subst e1
  obtain ⟨u1, u2, rfl, rv, rw'⟩ : ∃ u1 u2, us = [u1, u2] ∧ RelV v u1 ∧ RelV w u2 := by
    cases r1 with
    | cons p q =>
      cases q with
      | cons p' q' =>
        cases q'
        exact ⟨_, _, rfl, p, p'⟩
  refine wpAny_newObj_type ?_ (by show 2 ≤ sizeLine; decide)
  have I2 : Inv X pins σ H1 { s1 with heap := s1.heap.push { cls := .type "tuple", data := .seq [u1, u2].toArray } } := I1.kept (t' := s1.toks) fun b o e => Heap.get?_push_of_some _ e
  rw [hw]
  refine wpAny_bind (wpAny_pure ?_)
  show wpAny (model X.prog X.w) X.A (do rule "assign.swapped-stores"; let items ← unpackItems (.ref s1.heap.objs.size) 2 none; assignInOrder [fun v => bindName X.env y v, fun v => bindName X.env x v] items.reverse; pure Flow.next) _ _ _
  refine wpAny_bind (wpAny_rule (wpAny_bind (unpackItems_tuple (items := #[u1, u2]) (I.ok.hd hc) (IsTup.new s1.heap _) fun h' hx' => ?_)))
  have I3 := I2.kept (h' := h') (t' := s1.toks) fun b o e => hx' b o (Nat.ne_of_lt (Heap.lt_size e)) e
  show wpAny _ _ (assignInOrder [fun v => bindName X.env y v, fun v => bindName X.env x v] [u2, u1] >>= fun _ => pure Flow.next) _ _ _
  refine wpAny_bind (assignInOrder_cons (wpAny_bindName (store_ok I3 hN hj (.inl hy) rw' (fun s2 I4 => ?_) (.inr hy))))
  refine assignInOrder_cons (wpAny_bindName (store_ok I4 hN hi (.inl hx) rv (fun s3 I5 => assignInOrder_nil (wpAny_pure ?_)) (.inr hx)))
  rw [List.set_comm _ _ (Ne.symm hij)] at I5
  exact ⟨_, H1, I5, q1⟩
/-- o[i] op= e -/
def tAugS (to ti te : TE) (tget : V → V → Hp → VK → Prop) (tip : TIp) (tset : TSet) : TS := fun D σ H => to σ H fun o H1 => ti σ H1 fun i H2 => tget o i H2 fun x H3 => te σ H3 fun y H4 => tip x y H4 fun z H5 => tset o i z H5 fun H6 => D.nx σ H6
/-- o[i], by values -/
def PGet (X : Cx) (t : V → V → Hp → VK → Prop) : Prop :=
  ∀ (pins : List (Addr × Obj)) (s : Shared) (σ : St) (H : Hp) (o i : V) (ov iv : Value) (Q : VK), Inv X pins σ H s → RelV o ov → RelV i iv → t o i H Q →
    wpAny (model X.prog X.w) X.A (getItem ov iv) (EP X pins σ Q) X.xe s
theorem ps_augS {o i e : Expr} {to ti te : TE} {tget : V → V → Hp → VK → Prop} {tip : TIp} {tset : TSet} {op : Operator} {tpos : Pos} (ho : PE X o to) (hi : PE X i ti) (hg : PGet X tget) (he : PE X e te) (hp : PIp X op tip) (hs : PSet X tset)
    (ha : ∀ ov iv new, augStore i ov iv new = (do holding [new, ov, iv] (setItem ov iv new); release [new, ov, iv] []; pure .next) := by intros; rfl) : PS X (.AugAssign (.Subscript o i tpos) op e pos) (tAugS to ti te tget tip tset) := by
  intro pins s σ H D I h
  refine wpAny_AugAssign_SubscriptAny (thn (ho pins s σ H _ I h) fun ov s1 ⟨x1, H1, I1, r1, q1⟩ => ?_) ha
  refine thn (hi pins s1 σ H1 _ I1 q1) fun iv s2 ⟨x2, H2, I2, r2, q2⟩ => ?_
  refine thn (hg pins s2 σ H2 x1 x2 ov iv _ I2 r1 r2 q2) fun old s3 ⟨x3, H3, I3, r3, q3⟩ => ?_
  refine thn (he pins s3 σ H3 _ I3 q3) fun v s4 ⟨x4, H4, I4, r4, q4⟩ => ?_
  refine thn (hp pins s4 σ H4 x3 x4 old v _ I4 r3 r4 q4) fun new s5 ⟨x5, H5, I5, r5, q5⟩ => ?_
  exact thn (hs pins s5 σ H5 x1 x2 x5 ov iv new _ I5 r1 r2 r5 q5) fun _ s6 ⟨H6, I6, q6⟩ => ⟨σ, H6, I6, q6⟩
/-- ints -/
def ipI (f : Int → Int → Int) : TIp := fun x y H Q => ∃ i j, x = .int i ∧ y = .int j ∧ Q (.int (f i j)) H
theorem ip_add : PIp X .Add (ipI fun i j => i + j) := by
  intro pins s σ H x y v u Q I r1 r2 h
  obtain ⟨i, j, e1, e2, q⟩ := h
  subst e1; subst e2
  obtain ⟨t, rfl⟩ := r1
  obtain ⟨t', rfl⟩ := r2
  exact iadd_int ⟨.int _, H, I.tok _, ⟨_, rfl⟩, q⟩
theorem ip_sub : PIp X .Sub (ipI fun i j => i - j) := by
  intro pins s σ H x y v u Q I r1 r2 h
  obtain ⟨i, j, e1, e2, q⟩ := h
  subst e1; subst e2
  obtain ⟨t, rfl⟩ := r1
  obtain ⟨t', rfl⟩ := r2
  exact isub_int ⟨.int _, H, I.tok _, ⟨_, rfl⟩, q⟩
end

/-! ### while -/
section
variable {X : Cx} {pos : Pos}
/-- the invariant W with its measure -/
def tWhile (c : TT) (tb : TS) : TS := fun D σ H => ∃ W : Nat → St → Hp → Prop, (∃ m, W m σ H) ∧ ∀ m σ H, W m σ H →
  c σ H fun b H1 => if b = true then ∃ N : St → Hp → Prop, (∀ σ' H', N σ' H' → ∃ m', m' < m ∧ W m' σ' H') ∧ tb { D with nx := N, ct := N, bk := D.nx } σ H1 else D.nx σ H1
theorem ps_while {c : Expr} {body : List Stmt} {tc : TT} {tb : TS} (hp : PassesOwn (model X.prog X.w) X.A X.env X.xe) (hc : PT X c tc) (hb : PSs X body tb) : PS X (.While c body [] pos) (tWhile tc tb) := by
  intro pins s σ H D I h
  obtain ⟨W, ⟨m0, w0⟩, turn⟩ := h
  refine wpAny_While (codeAny_whileLoop (fun n s' => ∃ σ' H', Inv X pins σ' H' s' ∧ W n σ' H') ?_ m0 ⟨σ, H, I, w0⟩)
  rintro n s1 ⟨σ1, H1, I1, w1⟩
  refine wpAny_passesOwn hp (thn (hc pins s1 σ1 H1 _ I1 (turn n σ1 H1 w1)) fun b s2 ⟨H2, I2, q2⟩ => ?_)
  cases b with
  | true =>
    obtain ⟨N, hN, q2⟩ := q2
    rw [if_pos rfl]
    refine wpAny_passesOwn hp (thn (hb pins s2 σ1 H2 _ I2 q2) fun f s3 q3 => ?_)
    cases f with
    | next =>
      obtain ⟨σ3, H3, I3, n3⟩ := q3
      obtain ⟨m', hm, w3⟩ := hN σ3 H3 n3
      exact ⟨m', hm, σ3, H3, I3, w3⟩
    | cont =>
      obtain ⟨σ3, H3, I3, n3⟩ := q3
      obtain ⟨m', hm, w3⟩ := hN σ3 H3 n3
      exact ⟨m', hm, σ3, H3, I3, w3⟩
    | brk => exact q3
    | ret v => exact q3
  | false =>
    rw [if_neg Bool.false_ne_true]
    exact wpAny_execs_nil ⟨σ1, H2, I2, q2⟩
end

/-! ### what a loop or a comprehension walks -/
/-- at turn i: it yields x (the heap may grow), or it stops -/
structure It where
  go : Nat → Hp → Prop
  yld : Nat → Hp → V → Hp → Prop
  stop : Nat → Hp → Prop
/-- the iterator's own objects may turn: they are not the frame's, not pinned, younger than the entry (or a comprehension's own) -/
def FpOk (X : Cx) (pins : List (Addr × Obj)) (H : Hp) (b : Addr) : Prop :=
  H b = none ∧ b ≠ X.env.locals ∧ b ∉ X.fs ∧ (b ∈ X.ex ∨ X.s₀.heap.objs.size ≤ b) ∧ (∀ x c, X.env.cells.lookup x = some c → c ≠ b) ∧ ∀ p ∈ X.pn ++ pins, p.1 ≠ b
theorem Inv.fpOk {X : Cx} {pins : List (Addr × Obj)} {σ : St} {H H' : Hp} {s : Shared} {b : Addr} (I : Inv X pins σ H s) (hb : s.heap.objs.size ≤ b) (hn : H' b = none) : FpOk X pins H' b := by
  refine ⟨hn, Nat.ne_of_gt (Nat.lt_of_lt_of_le I.lt hb), I.nofs hb, .inr (Nat.le_trans I.sz hb), fun x c e z => ?_, fun p hp z => ?_⟩
  · obtain ⟨v, q⟩ := I.cell x c e
    exact absurd (Nat.lt_of_lt_of_le q.lt (by rw [z]; exact hb)) (Nat.lt_irrefl _)
  · exact absurd (Nat.lt_of_lt_of_le (Heap.lt_size (I.pin p hp).1) (by rw [z]; exact hb)) (Nat.lt_irrefl _)
structure Turn (P : Program) (w : World) (K : PySem.W.Frag) (tg : Expr) (J : It) (fp : List Addr) (it : Addr) (tn : Nat → Heap → Prop) : Prop where
  mem : it ∈ fp
  obj : ∀ i h, tn i h → ∀ b ∈ fp, ∃ o, h.get? b = some o ∧ ∀ v, o.data ≠ .cell v
  keep : ∀ i h h', tn i h → (∀ b ∈ fp, ∀ o, h.get? b = some o → h'.get? b = some o) → tn i h'
  item : ∀ (X : Cx), X.prog = P → X.w = w → X.K = K → X.calm = true → ∀ (i : Nat) (pins : List (Addr × Obj)) (s : Shared) (σ : St) (H : Hp) (E : Value → Shared → Prop), Inv X pins σ H s → (∀ b ∈ fp, FpOk X pins H b) → tn i s.heap → J.go i H →
    wpAny (model P w) X.A (pyNext (.ref it)) (fun r s1 => ∃ u, r = some u ∧
      wpAny (model P w) X.A (letOwnedTupleGo tg (.ref it) u) (fun _ s2 => ∃ x H', Inv X pins σ H' s2 ∧ RelV x u ∧ J.yld i H x H' ∧ tn (i + 1) s2.heap ∧ ∀ b ∈ fp, H' b = none) E s1) E s
  done : ∀ (X : Cx), X.prog = P → X.w = w → X.K = K → X.calm = true → ∀ (i : Nat) (pins : List (Addr × Obj)) (s : Shared) (σ : St) (H : Hp) (E : Value → Shared → Prop), Inv X pins σ H s → (∀ b ∈ fp, FpOk X pins H b) → tn i s.heap → J.stop i H →
    wpAny (model P w) X.A (pyNext (.ref it)) (fun r s1 => r = none ∧ Inv X pins σ H s1) E s
  self : ∀ (A : Around) (i : Nat) (s : Shared) (Q : Value → Shared → Prop) (E : Value → Shared → Prop), tn i s.heap → Q (.ref it) s → wpAny (model P w) A (pyIter (.ref it)) Q E s
abbrev TI := St → Hp → (It → Hp → Prop) → Prop
/-- an iterator has come -/
def PIE (X : Cx) (pins : List (Addr × Obj)) (σ : St) (tg : Expr) (R : It → Hp → Prop) (itv : Value) (s2 : Shared) : Prop :=
  ∃ (it : Addr) (fp : List Addr) (tn : Nat → Heap → Prop) (J : It) (H' : Hp), itv = .ref it ∧ Inv X pins σ H' s2 ∧ Turn X.prog X.w X.K tg J fp it tn ∧ tn 0 s2.heap ∧ (∀ b ∈ fp, FpOk X pins H' b) ∧ R J H'
def PI (X : Cx) (tg iter : Expr) (wi : TI) : Prop :=
  ∀ (pins : List (Addr × Obj)) (s : Shared) (σ : St) (H : Hp) (R : It → Hp → Prop), Inv X pins σ H s → wi σ H R →
    wpAny (model X.prog X.w) X.A (eval iter X.env) (fun v s1 => wpAny (model X.prog X.w) X.A (pyIter v) (PIE X pins σ tg R) X.xe s1) X.xe s

/-- the step ahead of the store is nothing for an iterator that keeps no tuple -/
theorem go_of {M : Model} {A : Around} {E : Value → Shared → Prop} {s : Shared} {tg : Expr} {it : Addr} {u : Value} {o : Obj} {n : String} {vs : Array Value} {Q : Unit → Shared → Prop} (ho : s.heap.get? it = some o) (hc : o.cls = .type n) (hd : o.data = .fields vs)
    (hn : ["enumerate", "zip", "dict_itemiterator", "dict_reverseitemiterator", "odict_iterator", "itertools.zip_longest", "itertools.pairwise"].contains n = false) (hQ : Q () s) : wpAny M A (letOwnedTupleGo tg (.ref it) u) Q E s := by
  unfold letOwnedTupleGo
  cases tg <;> first
    | exact wpAny_pure hQ
    | (cases u <;> first
        | exact wpAny_pure hQ
        | (refine wpAny_bind (wpAny_load ho ?_)
           rw [hc, hd]
           show wpAny M A (if (["enumerate", "zip", "dict_itemiterator", "dict_reverseitemiterator", "odict_iterator", "itertools.zip_longest", "itertools.pairwise"].contains n && vs[0]? == some (rawInt _)) = true then _ else _) Q E s
           rw [if_neg (by intro h; rw [hn, Bool.false_and] at h; cases h)]
           exact wpAny_pure hQ))

/-- the list at a, as it stands at each turn (a loop may append to it) -/
def Itl (K : PySem.W.Frag) (a : Addr) : It :=
  ⟨fun i H => ∃ xs x, SqL K H a xs ∧ xs[i]? = some x, fun i H x H' => H' = H ∧ ∀ xs, SqL K H a xs → xs[i]? = some x, fun i H => ∃ xs, SqL K H a xs ∧ xs.length ≤ i⟩
def Itt (K : PySem.W.Frag) (a : Addr) : It :=
  ⟨fun i H => ∃ xs x, SqT K H a xs ∧ xs[i]? = some x, fun i H x H' => H' = H ∧ ∀ xs, SqT K H a xs → xs[i]? = some x, fun i H => ∃ xs, SqT K H a xs ∧ xs.length ≤ i⟩
/-- lo, lo + 1, .. (n of them) -/
def Itr (lo : Int) (n : Nat) : It := ⟨fun i _ => i < n, fun i H x H' => H' = H ∧ x = .int (lo + i), fun i _ => n ≤ i⟩
theorem turn_list {P : Program} {w : World} {K : PySem.W.Frag} {tg : Expr} (a it : Addr) : Turn P w K tg (Itl K a) [it] it (fun i h => h.IsListIter it a i) where
  mem := by simp
  obj := fun i h st b hb => by
    have e : b = it := by simpa using hb
    subst e
    obtain ⟨o, e, c, d⟩ := st
    exact ⟨o, e, fun v z => by rw [d] at z; cases z⟩
  keep := fun i h h' st k => st.at fun o e => k it (by simp) o e
  item := by
    intro X hP hw hK hc i pins s σ H E I hf st hg
    subst hP hw hK
    obtain ⟨xs, x, hq, hx⟩ := hg
    obtain ⟨its, rv, p, hz⟩ := I.list hq
    obtain ⟨u, hu, ru⟩ := rv.get hx
    obtain ⟨f0, f1, f2, f3, f4, f5⟩ := hf it (by simp)
    refine wpAny_pyNext_list_item st p.isList (x := u) (by simpa using hu) fun h' st' sb => ?_
    have I1 : Inv X pins σ H { s with heap := h' } := I.turned (t' := s.toks) (fun b o hb e => (sb.2 b hb).trans e) f0 f1 f3 f4 f5
    obtain ⟨o, e, c, d⟩ := id st'
    exact ⟨u, rfl, go_of (s := { s with heap := h' }) e c d (by decide) ⟨x, H, I1, ru, ⟨rfl, fun ys hy => by rw [I.list_inj hy hq]; exact hx⟩, st', fun b hb => (hf b hb).1⟩⟩
  done := by
    intro X hP hw hK hc i pins s σ H E I hf st hg
    subst hP hw hK
    obtain ⟨xs, hq, hx⟩ := hg
    obtain ⟨its, rv, p, hz⟩ := I.list hq
    obtain ⟨f0, f1, f2, f3, f4, f5⟩ := hf it (by simp)
    have hl := rv.length
    exact wpAny_pyNext_list_end (I.ok.hd hc) st p.isList (by simp; omega) fun h' eb => ⟨rfl, I.turned (t' := s.toks) (fun b o hb e => eb b o hb e) f0 f1 f3 f4 f5⟩
  self := fun _ _ _ _ _ st h => wpAny_pyIter_listiter st h
theorem turn_tuple {P : Program} {w : World} {K : PySem.W.Frag} {tg : Expr} (a it : Addr) : Turn P w K tg (Itt K a) [it] it (fun i h => h.IsTupleIter it a i) where
  mem := by simp
  obj := fun i h st b hb => by
    have e : b = it := by simpa using hb
    subst e
    obtain ⟨o, e, c, d⟩ := st
    exact ⟨o, e, fun v z => by rw [d] at z; cases z⟩
  keep := fun i h h' st k => st.at fun o e => k it (by simp) o e
  item := by
    intro X hP hw hK hc i pins s σ H E I hf st hg
    subst hP hw hK
    obtain ⟨xs, x, hq, hx⟩ := hg
    obtain ⟨its, rv, p, hz⟩ := I.tuple hq
    obtain ⟨u, hu, ru⟩ := rv.get hx
    obtain ⟨f0, f1, f2, f3, f4, f5⟩ := hf it (by simp)
    refine wpAny_pyNext_tuple_item st (show s.heap.IsTuple a its.toArray from p) (x := u) (by simpa using hu) fun h' st' sb => ?_
    have I1 : Inv X pins σ H { s with heap := h' } := I.turned (t' := s.toks) (fun b o hb e => (sb.2 b hb).trans e) f0 f1 f3 f4 f5
    obtain ⟨o, e, c, d⟩ := id st'
    exact ⟨u, rfl, go_of (s := { s with heap := h' }) e c d (by decide) ⟨x, H, I1, ru, ⟨rfl, fun ys hy => by rw [I.tuple_inj hy hq]; exact hx⟩, st', fun b hb => (hf b hb).1⟩⟩
  done := by
    intro X hP hw hK hc i pins s σ H E I hf st hg
    subst hP hw hK
    obtain ⟨xs, hq, hx⟩ := hg
    obtain ⟨its, rv, p, hz⟩ := I.tuple hq
    obtain ⟨f0, f1, f2, f3, f4, f5⟩ := hf it (by simp)
    have hl := rv.length
    exact wpAny_pyNext_tuple_end (I.ok.hd hc) st (show s.heap.IsTuple a its.toArray from p) (by simp; omega) fun h' eb => ⟨rfl, I.turned (t' := s.toks) (fun b o hb e => eb b o hb e) f0 f1 f3 f4 f5⟩
  self := fun _ _ _ _ _ st h => wpAny_pyIter_tupleiter st h
theorem turn_range {P : Program} {w : World} {K : PySem.W.Frag} {tg : Expr} (it : Addr) (lo : Int) (n : Nat) : Turn P w K tg (Itr lo n) [it] it (fun i h => IsRangeIter h it (lo + (i : Nat) * 1) ((n : Int) - (i : Nat)) 1) where
  mem := by simp
  obj := fun i h st b hb => by
    have e : b = it := by simpa using hb
    subst e
    exact ⟨_, st, fun v z => by
      have z' : Data.fields _ = Data.cell v := z
      cases z'⟩
  keep := fun i h h' st k => k it (by simp) _ st
  item := by
    intro X hP hw hK hc i pins s σ H E I hf st hg
    subst hP hw hK
    obtain ⟨f0, f1, f2, f3, f4, f5⟩ := hf it (by simp)
    have W := Walks.range (prog := X.prog) (w := X.w) (I.ok.hd hc) it lo 1 n
    refine W.item i s _ _ hg st fun v h' tk hv st' kk => ?_
    obtain ⟨t, rfl⟩ := hv
    have I1 : Inv X pins σ H { s with heap := h', toks := tk } := I.turned (fun b o hb e => kk b o (by simpa using hb) e) f0 f1 f3 f4 f5
    refine ⟨_, rfl, go_of (s := { s with heap := h', toks := tk }) (n := "range_iterator") st' rfl rfl (by decide) ⟨.int (lo + i), H, I1, ⟨t, ?_⟩, ⟨rfl, rfl⟩, st', fun b hb => (hf b hb).1⟩⟩
    rw [Int.mul_one]
  done := by
    intro X hP hw hK hc i pins s σ H E I hf st hg
    subst hP hw hK
    obtain ⟨f0, f1, f2, f3, f4, f5⟩ := hf it (by simp)
    exact wpAny_pyNext_range_end (I.ok.hd hc) st (by have : n ≤ i := hg; omega) fun h' eb => ⟨rfl, I.turned (t' := s.toks) (fun b o hb e => eb b o hb e) f0 f1 f3 f4 f5⟩
  self := fun _ _ _ _ _ st h => wpAny_pyIter_rangeiter st h
end L2

namespace L2
open PySem PySem.Spec PyProof.Rows
section
variable {X : Cx} {tg : Expr}
def iList (K : PySem.W.Frag) (tl : TE) : TI := fun σ H R => tl σ H fun x H1 => ∃ a, x = .ref a ∧ (∃ xs, SqL K H1 a xs) ∧ R (Itl K a) H1
def iTup (K : PySem.W.Frag) (tl : TE) : TI := fun σ H R => tl σ H fun x H1 => ∃ a, x = .ref a ∧ (∃ xs, SqT K H1 a xs) ∧ R (Itt K a) H1
theorem pi_list {l : Expr} {tl : TE} (hl : PE X l tl) : PI X tg l (iList X.K tl) := by
  intro pins s σ H R I h
  refine thn (hl pins s σ H _ I h) fun v s1 ⟨x, H1, I1, r1, q1⟩ => ?_
  obtain ⟨a, e, ⟨xs, hq⟩, q⟩ := q1
  subst e
  cases r1
  obtain ⟨its, rv, p, hz⟩ := I1.list hq
  refine wpAny_pyIter_list p.isList ?_
  refine ⟨s1.heap.objs.size, [s1.heap.objs.size], _, _, H1, rfl, I1.kept (t' := s1.toks) fun b o e => Heap.get?_push_of_some _ e, turn_list a _, ⟨_, Heap.get?_push_size _ rfl, rfl, rfl⟩, fun b hb => ?_, q⟩
  have e : b = s1.heap.objs.size := by simpa using hb
  subst e
  exact I1.fpOk (Nat.le_refl _) (I1.hok.fresh (Nat.le_refl _))
theorem pi_tup {l : Expr} {tl : TE} (hl : PE X l tl) : PI X tg l (iTup X.K tl) := by
  intro pins s σ H R I h
  refine thn (hl pins s σ H _ I h) fun v s1 ⟨x, H1, I1, r1, q1⟩ => ?_
  obtain ⟨a, e, ⟨xs, hq⟩, q⟩ := q1
  subst e
  cases r1
  obtain ⟨its, rv, p, hz⟩ := I1.tuple hq
  refine wpAny_pyIter_tuple (show s1.heap.IsTuple a its.toArray from p) ?_
  refine ⟨s1.heap.objs.size, [s1.heap.objs.size], _, _, H1, rfl, I1.kept (t' := s1.toks) fun b o e => Heap.get?_push_of_some _ e, turn_tuple a _, ⟨_, Heap.get?_push_size _ rfl, rfl, rfl⟩, fun b hb => ?_, q⟩
  have e : b = s1.heap.objs.size := by simpa using hb
  subst e
  exact I1.fpOk (Nat.le_refl _) (I1.hok.fresh (Nat.le_refl _))
/-- a range object just made, walked -/
theorem range_it {pins : List (Addr × Obj)} {σ : St} {H : Hp} {s : Shared} {R : It → Hp → Prop} {E : Value → Shared → Prop} {lo hi : Int} {t u v : Tok} {tk : Nat} (I : Inv X pins σ H s) (h1 : -(2 ^ 62) ≤ lo) (h2 : lo < 2 ^ 62) (h3 : -(2 ^ 62) ≤ hi) (h4 : hi < 2 ^ 62)
    (q : R (Itr lo (hi - lo).toNat) H) : wpAny (model X.prog X.w) X.A (pyIter (.ref s.heap.objs.size)) (PIE X pins σ tg R) E { s with heap := s.heap.push { cls := .type "range", data := .fields #[.int lo t, .int hi u, .int 1 v] }, toks := tk } := by
  refine wpAny_pyIter_range (IsRange.new ..) (small_one h1 h2 h3 h4) ?_
  have I1 : Inv X pins σ H { s with heap := s.heap.push { cls := .type "range", data := .fields #[.int lo t, .int hi u, .int 1 v] }, toks := tk } := I.kept fun b o e => Heap.get?_push_of_some _ e
  refine ⟨(s.heap.push { cls := .type "range", data := .fields #[.int lo t, .int hi u, .int 1 v] }).objs.size, [(s.heap.push { cls := .type "range", data := .fields #[.int lo t, .int hi u, .int 1 v] }).objs.size], _, _, H, rfl,
    I1.kept (t' := tk) fun b o e => Heap.get?_push_of_some _ e, turn_range _ lo (hi - lo).toNat, ?_, fun b hb => ?_, q⟩
  · have e1 : lo + ((0 : Nat) : Int) * 1 = lo := by simp
    have e2 : (((hi - lo).toNat : Nat) : Int) - ((0 : Nat) : Int) = Builtin.Range.rangeSize lo hi 1 := by rw [rangeSize_one]; split <;> omega
    show IsRangeIter _ _ (lo + ((0 : Nat) : Int) * 1) ((((hi - lo).toNat : Nat) : Int) - ((0 : Nat) : Int)) 1
    rw [e1, e2]
    exact Heap.get?_push_size _ rfl
  · have e : b = (s.heap.push { cls := .type "range", data := .fields #[.int lo t, .int hi u, .int 1 v] }).objs.size := by simpa using hb
    subst e
    exact I1.fpOk (Nat.le_refl _) (I1.hok.fresh (Nat.le_refl _))
def iRng1 (ta : TA) : TI := fun σ H R => ta σ H fun vs H1 => ∃ j : Int, vs = [.int j] ∧ -(2 ^ 62) ≤ j ∧ j < 2 ^ 62 ∧ R (Itr 0 j.toNat) H1
theorem pi_range1 {a : Expr} {ta : TA} {p pos : Pos} (hg : Gl X "range") (hm : X.mg "range" = none) (ha : PA X [a] ta) (hs : starEach [a] X.env = [(false, eval a X.env)] := by rfl) : PI X tg (.Call (.Name "range" p) [a] [] pos) (iRng1 ta) := by
  intro pins s σ H R I h
  refine Call_ (ld_blt I hg hm boot_range (PyProof.Rows.callWith_type1 (thn (ha pos pins s σ H _ I h) fun us s1 ⟨vs, H1, I1, r1, q1⟩ => ?_) hs rfl))
  obtain ⟨j, e, q1, q2, q⟩ := q1
  subst e
  cases r1 with
  | cons r rr =>
    cases rr
    obtain ⟨t, rfl⟩ := r
    exact call_range_1 (range_it I1 (by omega) (by omega) q1 q2 (by simpa using q))

/-! ### for -/
/-- W: the invariant by the turn and a measure; N: what the body is to reach -/
def tFor (wi : TI) (g : TG) (tb : TS) : TS := fun D σ H => wi σ H fun J H1 => ∃ W : Nat → Nat → St → Hp → Prop, (∃ m, W 0 m σ H1) ∧ ∀ i m σ H, W i m σ H →
  (J.stop i H ∧ D.nx σ H) ∨ (J.go i H ∧ ∃ N : St → Hp → Prop, (∀ σ' H', N σ' H' → ∃ m', m' < m ∧ W (i + 1) m' σ' H') ∧ ∀ x H', J.yld i H x H' → g x σ H' fun σ2 H2 => tb { D with nx := N, ct := N, bk := D.nx } σ2 H2)
/-- the records at fp as they stand -/
def pinsAt (fp : List Addr) (h : Heap) : List (Addr × Obj) := fp.filterMap fun b => (h.get? b).map fun o => (b, o)
theorem mem_pinsAt {fp : List Addr} {h : Heap} {b : Addr} {o : Obj} (hb : b ∈ fp) (e : h.get? b = some o) : (b, o) ∈ pinsAt fp h := List.mem_filterMap.mpr ⟨b, hb, by rw [e]; rfl⟩
theorem of_pinsAt {fp : List Addr} {h : Heap} {p : Addr × Obj} (hp : p ∈ pinsAt fp h) : p.1 ∈ fp ∧ h.get? p.1 = some p.2 := by
  obtain ⟨b, hb, e⟩ := List.mem_filterMap.mp hp
  cases q : h.get? b with
  | none => rw [q] at e; cases e
  | some o =>
    rw [q] at e
    have e' : (b, o) = p := Option.some.inj e
    subst e'
    exact ⟨hb, q⟩
theorem Inv.pinned {pins : List (Addr × Obj)} {σ : St} {H : Hp} {s : Shared} {fp : List Addr} (I : Inv X pins σ H s) (hf : ∀ b ∈ fp, FpOk X pins H b) (ho : ∀ b ∈ fp, ∃ o, s.heap.get? b = some o ∧ ∀ v, o.data ≠ .cell v) : Inv X (pins ++ pinsAt fp s.heap) σ H s :=
  I.pins_of fun p hp => (List.mem_append.mp hp).elim (fun z => I.pin p (List.mem_append_right _ z)) fun z => by
    obtain ⟨hb, e⟩ := of_pinsAt z
    obtain ⟨f0, f1, f2, _⟩ := hf p.1 hb
    obtain ⟨o, e', d⟩ := ho p.1 hb
    rw [e] at e'; cases e'
    exact ⟨e, f0, f1, f2, d⟩
theorem Inv.unpinned {pins pl : List (Addr × Obj)} {σ : St} {H : Hp} {s : Shared} (I : Inv X (pins ++ pl) σ H s) : Inv X pins σ H s := I.pins_of fun p hp => I.pin p (List.mem_append_right _ (List.mem_append_left _ hp))
theorem ps_for {iter : Expr} {body : List Stmt} {wi : TI} {g : TG} {tb : TS} {pos : Pos} (hp : PassesOwn (model X.prog X.w) X.A X.env X.xe) (hc : X.calm = true) (hi : PI X tg iter wi) (hg : PG X tg g) (hb : PSs X body tb)
    (hs : ∀ x, foldedSetIterable iter X.env x = pure x := by intro _; rfl) : PS X (.For tg iter body [] pos) (tFor wi g tb) := by
  intro pins s σ H D I h
  refine wpAny_For (thn (hi pins s σ H _ I h) fun v s1 h1 => thn h1 fun itv s2 h2 => ?_) hs
  obtain ⟨it, fp, tn, J, H2, e, I2, T, st2, f2, W, ⟨m0, w0⟩, turn⟩ := h2
  subst e
  -- what stays true of the iterator's objects through the loop
  have stat : ∀ {H' : Hp}, (∀ b ∈ fp, H' b = none) → ∀ b ∈ fp, FpOk X pins H' b := fun hn b hb => ⟨hn b hb, (f2 b hb).2⟩
  refine codeAny_forLoop_any (fun n s' => ∃ i σ' H', Inv X pins σ' H' s' ∧ tn i s'.heap ∧ (∀ b ∈ fp, H' b = none) ∧ W i n σ' H') ?_ m0 ⟨0, σ, H2, I2, st2, fun b hb => (f2 b hb).1, w0⟩
  rintro n s3 ⟨i, σ3, H3, I3, st3, fr3, w3⟩
  rcases turn i n σ3 H3 w3 with ⟨stop, qn⟩ | ⟨go, N, hN, step⟩
  · refine wpAny_passesOwn hp (thn (T.done X rfl rfl rfl hc i pins s3 σ3 H3 X.xe I3 (stat fr3) st3 stop) fun r s4 ⟨hr, I4⟩ => ?_)
    subst hr
    exact wpAny_execs_nil ⟨σ3, H3, I4, qn⟩
  · refine wpAny_passesOwn hp (thn (T.item X rfl rfl rfl hc i pins s3 σ3 H3 X.xe I3 (stat fr3) st3 go) fun r s4 ⟨u, hr, h4⟩ => ?_)
    subst hr
    refine wpAny_passesOwn hp (thn h4 fun _ s5 ⟨x, H5, I5, r5, y5, st5, fr5⟩ => ?_)
    have I5' := I5.pinned (stat fr5) (T.obj _ _ st5)
    refine wpAny_passesOwn hp (thn (hg _ s5 σ3 H5 x u _ I5' r5 (step x H5 y5)) fun _ s6 ⟨σ6, H6, I6, q6⟩ => ?_)
    refine wpAny_passesOwn hp (thn (hb _ s6 σ6 H6 _ I6 q6) fun f s7 q7 => ?_)
    have again : ∀ {σ7 : St} {H7 : Hp}, Inv X (pins ++ pinsAt fp s5.heap) σ7 H7 s7 → N σ7 H7 → ∃ m, m < n ∧ ∃ i σ' H', Inv X pins σ' H' s7 ∧ tn i s7.heap ∧ (∀ b ∈ fp, H' b = none) ∧ W i m σ' H' := fun {σ7 H7} I7 n7 => by
      obtain ⟨m', hm, w7⟩ := hN σ7 H7 n7
      refine ⟨m', hm, i + 1, σ7, H7, I7.unpinned, T.keep _ _ _ st5 fun b hb o e => (I7.pin (b, o) (List.mem_append_right _ (List.mem_append_right _ (mem_pinsAt hb e)))).1, fun b hb => ?_, w7⟩
      obtain ⟨o, e, d⟩ := T.obj _ _ st5 b hb
      exact (I7.pin (b, o) (List.mem_append_right _ (List.mem_append_right _ (mem_pinsAt hb e)))).2.1
    cases f with
    | next => obtain ⟨σ7, H7, I7, n7⟩ := q7; exact again I7 n7
    | cont => obtain ⟨σ7, H7, I7, n7⟩ := q7; exact again I7 n7
    | brk => obtain ⟨σ7, H7, I7, q7⟩ := q7; exact ⟨σ7, H7, I7.unpinned, q7⟩
    | ret v => obtain ⟨x7, σ7, H7, I7, r7, q7⟩ := q7; exact ⟨x7, σ7, H7, I7.unpinned, r7, q7⟩
end

/-! ### the forms one uses -/
/-- over a list that the body leaves as it is -/
theorem for_list {K : PySem.W.Frag} {a : Addr} {xs : List V} {g : TG} {tb : TS} {D : Ends} {σ : St} {H : Hp} (Pv : Nat → St → Hp → Prop) (h0 : Pv 0 σ H) (hl : ∀ i σ H, i ≤ xs.length → Pv i σ H → SqL K H a xs)
    (hs : ∀ i x σ H, xs[i]? = some x → Pv i σ H → g x σ H fun σ2 H2 => tb { D with nx := Pv (i + 1), ct := Pv (i + 1), bk := D.nx } σ2 H2) (hd : ∀ σ H, Pv xs.length σ H → D.nx σ H) :
    ∃ W : Nat → Nat → St → Hp → Prop, (∃ m, W 0 m σ H) ∧ ∀ i m σ H, W i m σ H →
      ((Itl K a).stop i H ∧ D.nx σ H) ∨ ((Itl K a).go i H ∧ ∃ N : St → Hp → Prop, (∀ σ' H', N σ' H' → ∃ m', m' < m ∧ W (i + 1) m' σ' H') ∧ ∀ x H', (Itl K a).yld i H x H' → g x σ H' fun σ2 H2 => tb { D with nx := N, ct := N, bk := D.nx } σ2 H2) := by
  refine ⟨fun i m σ H => m = xs.length - i ∧ i ≤ xs.length ∧ Pv i σ H, ⟨xs.length, by simp, Nat.zero_le _, h0⟩, ?_⟩
  rintro i m σ H ⟨rfl, hi, p⟩
  have q := hl i σ H hi p
  by_cases hlt : i < xs.length
  · refine .inr ⟨⟨xs, xs[i], q, by simp [hlt]⟩, Pv (i + 1), fun σ' H' p' => ⟨xs.length - (i + 1), by omega, rfl, hlt, p'⟩, fun x H' y => ?_⟩
    obtain ⟨e, y⟩ := y
    subst e
    exact hs i x σ _ (y xs q) p
  · have e : i = xs.length := by omega
    subst e
    exact .inl ⟨⟨xs, q, Nat.le_refl _⟩, hd σ H p⟩
theorem for_tup {K : PySem.W.Frag} {a : Addr} {xs : List V} {g : TG} {tb : TS} {D : Ends} {σ : St} {H : Hp} (Pv : Nat → St → Hp → Prop) (h0 : Pv 0 σ H) (hl : ∀ i σ H, i ≤ xs.length → Pv i σ H → SqT K H a xs)
    (hs : ∀ i x σ H, xs[i]? = some x → Pv i σ H → g x σ H fun σ2 H2 => tb { D with nx := Pv (i + 1), ct := Pv (i + 1), bk := D.nx } σ2 H2) (hd : ∀ σ H, Pv xs.length σ H → D.nx σ H) :
    ∃ W : Nat → Nat → St → Hp → Prop, (∃ m, W 0 m σ H) ∧ ∀ i m σ H, W i m σ H →
      ((Itt K a).stop i H ∧ D.nx σ H) ∨ ((Itt K a).go i H ∧ ∃ N : St → Hp → Prop, (∀ σ' H', N σ' H' → ∃ m', m' < m ∧ W (i + 1) m' σ' H') ∧ ∀ x H', (Itt K a).yld i H x H' → g x σ H' fun σ2 H2 => tb { D with nx := N, ct := N, bk := D.nx } σ2 H2) := by
  refine ⟨fun i m σ H => m = xs.length - i ∧ i ≤ xs.length ∧ Pv i σ H, ⟨xs.length, by simp, Nat.zero_le _, h0⟩, ?_⟩
  rintro i m σ H ⟨rfl, hi, p⟩
  have q := hl i σ H hi p
  by_cases hlt : i < xs.length
  · refine .inr ⟨⟨xs, xs[i], q, by simp [hlt]⟩, Pv (i + 1), fun σ' H' p' => ⟨xs.length - (i + 1), by omega, rfl, hlt, p'⟩, fun x H' y => ?_⟩
    obtain ⟨e, y⟩ := y
    subst e
    exact hs i x σ _ (y xs q) p
  · have e : i = xs.length := by omega
    subst e
    exact .inl ⟨⟨xs, q, Nat.le_refl _⟩, hd σ H p⟩
theorem for_range {lo : Int} {n : Nat} {g : TG} {tb : TS} {D : Ends} {σ : St} {H : Hp} (Pv : Nat → St → Hp → Prop) (h0 : Pv 0 σ H)
    (hs : ∀ i σ H, i < n → Pv i σ H → g (.int (lo + i)) σ H fun σ2 H2 => tb { D with nx := Pv (i + 1), ct := Pv (i + 1), bk := D.nx } σ2 H2) (hd : ∀ σ H, Pv n σ H → D.nx σ H) :
    ∃ W : Nat → Nat → St → Hp → Prop, (∃ m, W 0 m σ H) ∧ ∀ i m σ H, W i m σ H →
      ((Itr lo n).stop i H ∧ D.nx σ H) ∨ ((Itr lo n).go i H ∧ ∃ N : St → Hp → Prop, (∀ σ' H', N σ' H' → ∃ m', m' < m ∧ W (i + 1) m' σ' H') ∧ ∀ x H', (Itr lo n).yld i H x H' → g x σ H' fun σ2 H2 => tb { D with nx := N, ct := N, bk := D.nx } σ2 H2) := by
  refine ⟨fun i m σ H => m = n - i ∧ i ≤ n ∧ Pv i σ H, ⟨n, by simp, Nat.zero_le _, h0⟩, ?_⟩
  rintro i m σ H ⟨rfl, hi, p⟩
  by_cases hlt : i < n
  · refine .inr ⟨hlt, Pv (i + 1), fun σ' H' p' => ⟨n - (i + 1), by omega, rfl, hlt, p'⟩, fun x H' y => ?_⟩
    obtain ⟨e, y⟩ := y
    subst e y
    exact hs i σ _ hlt p
  · have e : i = n := by omega
    subst e
    exact .inl ⟨Nat.le_refl _, hd σ H p⟩
end L2

namespace L2
open PySem PySem.Spec PyProof.Rows

abbrev R2 := V → V → Hp → VK → Prop
/-- a two-place operation on values: f is binaryOp op, inplaceOp op or compareOp op -/
def OpR (X : Cx) (f : Value → Value → Sem Value) (r : R2) : Prop :=
  ∀ (pins : List (Addr × Obj)) (s : Shared) (σ : St) (H : Hp) (x y : V) (v u : Value) (Q : VK), Inv X pins σ H s → RelV x v → RelV y u → r x y H Q →
    wpAny (model X.prog X.w) X.A (f v u) (EP X pins σ Q) X.xe s
/-- a one-place operation -/
def UnR (X : Cx) (f : Value → Sem Value) (r : V → Hp → VK → Prop) : Prop :=
  ∀ (pins : List (Addr × Obj)) (s : Shared) (σ : St) (H : Hp) (x : V) (v : Value) (Q : VK), Inv X pins σ H s → RelV x v → r x H Q →
    wpAny (model X.prog X.w) X.A (f v) (EP X pins σ Q) X.xe s
/-- a call of a value that is known (a builtin, a type) with values -/
def CallR (X : Cx) (f : Value) (r : List V → Hp → VK → Prop) : Prop :=
  ∀ (pins : List (Addr × Obj)) (s : Shared) (σ : St) (H : Hp) (xs : List V) (us : List Value) (Q : VK), Inv X pins σ H s → Vals xs us → r xs H Q →
    wpAny (model X.prog X.w) X.A (call f us) (EP X pins σ Q) X.xe s

def tOp (r : R2) (ta tb : TE) : TE := fun σ H Q => ta σ H fun x H1 => tb σ H1 fun y H2 => r x y H2 Q
def tUn (r : V → Hp → VK → Prop) (ta : TE) : TE := fun σ H Q => ta σ H fun x H1 => r x H1 Q
/-- ints in, under C, and a value out -/
def rI (C : Int → Int → Prop) (g : Int → Int → V) : R2 := fun x y H Q => ∃ i j, x = .int i ∧ y = .int j ∧ C i j ∧ Q (g i j) H
def rI0 (g : Int → Int → V) : R2 := fun x y H Q => ∃ i j, x = .int i ∧ y = .int j ∧ Q (g i j) H
def rU (g : Int → V) : V → Hp → VK → Prop := fun x H Q => ∃ i, x = .int i ∧ Q (g i) H

section
variable {X : Cx} {a b c : Expr} {ta tb tc : TE} {pos : Pos}

theorem binT (ha : PE X a ta) (hb : PE X b tb) {pins : List (Addr × Obj)} {s : Shared} {σ : St} {H : Hp} {R : V → V → Hp → Prop} (I : Inv X pins σ H s)
    (h : ta σ H fun x H1 => tb σ H1 fun y H2 => R x y H2) {Q : Value → Shared → Prop} {f : Value → Value → Sem Value}
    (hf : ∀ v u s2 x y H2, Inv X pins σ H2 s2 → RelV x v → RelV y u → R x y H2 → wpAny (model X.prog X.w) X.A (f v u) Q X.xe s2) :
    wpAny (model X.prog X.w) X.A (eval a X.env) (fun v s₁ => wpAny (model X.prog X.w) X.A (eval b X.env) (fun u s₂ => wpAny (model X.prog X.w) X.A (f v u) Q X.xe s₂) X.xe s₁) X.xe s := by
  refine thn (ha pins s σ H _ I h) fun v s1 ⟨x, H1, I1, r1, q1⟩ => ?_
  refine thn (hb pins s1 σ H1 _ I1 q1) fun u s2 ⟨y, H2, I2, r2, q2⟩ => ?_
  exact hf v u s2 x y H2 I2 r1 r2 q2

theorem pe_op {op : Operator} {r : R2} (ho : OpR X (binaryOp op) r) (ha : PE X a ta) (hb : PE X b tb) : PE X (.BinOp a op b pos) (tOp r ta tb) := by
  intro pins s σ H Q I h
  exact wpAny_BinOp (binT ha hb I h fun v u s2 x y H2 I2 rx ry q => ho pins s2 σ H2 x y v u Q I2 rx ry q)
theorem pe_un {op : UnaryOp} {r : V → Hp → VK → Prop} (ho : UnR X (unaryOp op) r) (ha : PE X a ta) : PE X (.UnaryOp op a pos) (tUn r ta) := by
  intro pins s σ H Q I h
  exact UnaryOp_ (thn (ha pins s σ H _ I h) fun v s1 ⟨x, H1, I1, r1, q1⟩ => ho pins s1 σ H1 x v Q I1 r1 q1)

/-! ### ints -/
theorem opI {f : Value → Value → Sem Value} {C : Int → Int → Prop} {g : Int → Int → Int}
    (rule : ∀ (i j : Int) (t u : Tok) (s : Shared) (Q : Value → Shared → Prop) (E : Value → Shared → Prop), C i j → Q (.int (g i j) s.toks) { s with toks := s.toks + 1 } → wpAny (model X.prog X.w) X.A (f (.int i t) (.int j u)) Q E s) :
    OpR X f (rI C fun i j => .int (g i j)) := by
  intro pins s σ H x y v u Q I rx ry h
  obtain ⟨i, j, rfl, rfl, hc, q⟩ := h
  obtain ⟨t, rfl⟩ := rx
  obtain ⟨t', rfl⟩ := ry
  exact rule i j t t' s _ _ hc ⟨.int (g i j), H, I.tok _, ⟨_, rfl⟩, q⟩
theorem opI0 {f : Value → Value → Sem Value} {g : Int → Int → Int}
    (rule : ∀ (i j : Int) (t u : Tok) (s : Shared) (Q : Value → Shared → Prop) (E : Value → Shared → Prop), Q (.int (g i j) s.toks) { s with toks := s.toks + 1 } → wpAny (model X.prog X.w) X.A (f (.int i t) (.int j u)) Q E s) :
    OpR X f (rI0 fun i j => .int (g i j)) := by
  intro pins s σ H x y v u Q I rx ry h
  obtain ⟨i, j, rfl, rfl, q⟩ := h
  obtain ⟨t, rfl⟩ := rx
  obtain ⟨t', rfl⟩ := ry
  exact rule i j t t' s _ _ ⟨.int (g i j), H, I.tok _, ⟨_, rfl⟩, q⟩
theorem opB0 {f : Value → Value → Sem Value} {g : Int → Int → Bool}
    (rule : ∀ (i j : Int) (t u : Tok) (s : Shared) (Q : Value → Shared → Prop) (E : Value → Shared → Prop), Q (.bool (g i j)) s → wpAny (model X.prog X.w) X.A (f (.int i t) (.int j u)) Q E s) :
    OpR X f (rI0 fun i j => .bl (g i j)) := by
  intro pins s σ H x y v u Q I rx ry h
  obtain ⟨i, j, rfl, rfl, q⟩ := h
  obtain ⟨t, rfl⟩ := rx
  obtain ⟨t', rfl⟩ := ry
  exact rule i j t t' s _ _ ⟨.bl (g i j), H, I, rfl, q⟩

def CPow (i j : Int) : Prop := 0 ≤ j ∧ j ≤ 1000000 ∧ i.natAbs < 2 ^ 64

theorem op_add : OpR X (binaryOp .Add) (rI0 fun i j => .int (i + j)) := opI0 fun _ _ _ _ _ _ _ q => add_int q
theorem op_sub : OpR X (binaryOp .Sub) (rI0 fun i j => .int (i - j)) := opI0 fun _ _ _ _ _ _ _ q => sub_int q
theorem op_modN : OpR X (binaryOp .Mod) (rI (fun _ j => j ≠ 0) fun i j => .int (i.fmod j)) := opI fun _ _ _ _ _ _ _ hc q => mod_int' hc q
theorem op_pow : OpR X (binaryOp .Pow) (rI CPow fun i j => .int (i ^ j.toNat)) := opI fun _ _ _ _ _ _ _ hc q => pow_int_small hc.1 hc.2.1 hc.2.2 q


theorem unI {f : Value → Sem Value} {g : Int → Int}
    (rule : ∀ (i : Int) (t : Tok) (s : Shared) (Q : Value → Shared → Prop) (E : Value → Shared → Prop), Q (.int (g i) s.toks) { s with toks := s.toks + 1 } → wpAny (model X.prog X.w) X.A (f (.int i t)) Q E s) :
    UnR X f (rU fun i => .int (g i)) := by
  intro pins s σ H x v Q I rx h
  obtain ⟨i, rfl, q⟩ := h
  obtain ⟨t, rfl⟩ := rx
  exact rule i t s _ _ ⟨.int (g i), H, I.tok _, ⟨_, rfl⟩, q⟩
theorem un_neg : UnR X (unaryOp .USub) (rU fun i => .int (-i)) := unI fun _ _ _ _ _ q => neg_int q

/-! ### bools among ints: n += (a < b) -/
end

/-! ### comparisons -/
/-- the scalars that == tells apart as data does -/
def scal : V → V → Bool
  | .non, .non => true | .non, .int _ => true | .int _, .non => true | .non, .bl _ => true | .bl _, .non => true | .non, .str _ => true | .str _, .non => true
  | .int _, .int _ => true | .bl _, .bl _ => true | .str _, .str _ => true | .byt _, .byt _ => true
  | .int _, .str _ => true | .str _, .int _ => true | .bl _, .str _ => true | .str _, .bl _ => true
  | _, _ => false
def rEq : R2 := fun x y H Q => scal x y = true ∧ Q (.bl (decide (x = y))) H
def rNe : R2 := fun x y H Q => scal x y = true ∧ Q (.bl (!decide (x = y))) H

theorem dec_int {i j : Int} : decide (V.int i = V.int j) = (i == j) := by
  rw [Bool.eq_iff_iff]
  simp
theorem dec_bl {i j : Bool} : decide (V.bl i = V.bl j) = (i == j) := by
  rw [Bool.eq_iff_iff]
  simp
theorem dec_str {i j : Str} : decide (V.str i = V.str j) = (i == j) := by
  rw [Bool.eq_iff_iff]
  simp
theorem dec_byt {i j : Array UInt8} : decide (V.byt i = V.byt j) = (i.toList == j.toList) := by
  rw [Bool.eq_iff_iff]
  cases i
  cases j
  simp

section
variable {X : Cx} {a b c : Expr} {ta tb tc : TE} {pos : Pos}
theorem fin_bl {pins : List (Addr × Obj)} {σ : St} {H : Hp} {s : Shared} {Q : VK} {k k' : Bool} (I : Inv X pins σ H s) (q : Q (.bl k) H) (e : k = k') : EP X pins σ Q (.bool k') s := by
  subst e
  exact ⟨.bl k, H, I, rfl, q⟩
theorem op_eq : OpR X (compareOp .Eq) rEq := by
  intro pins s σ H x y v u Q I rx ry h
  obtain ⟨hs, q⟩ := h
  cases x with
  | non =>
    cases rx
    cases y with
    | non => cases ry; exact PySem.EqNone.eq_none_none (fin_bl I q (by simp))
    | bl j => cases ry; exact PySem.EqNone.eq_none_bool (fin_bl I q (by simp))
    | int j => obtain ⟨t', rfl⟩ := ry; exact PySem.EqNone.eq_none_int (fin_bl I q (by simp))
    | str j => obtain ⟨t', rfl⟩ := ry; exact PySem.EqNone.eq_none_str (fin_bl I q (by simp))
    | _ => exact absurd (show false = true from hs) Bool.false_ne_true
  | bl i =>
    cases rx
    cases y with
    | non => cases ry; exact PySem.EqNone.eq_bool_none (fin_bl I q (by simp))
    | bl j => cases ry; exact eq_bool (fin_bl I q dec_bl)
    | str j => obtain ⟨t', rfl⟩ := ry; exact PySem.EqMixed.eq_bool_str (fin_bl I q (by simp))
    | _ => exact absurd (show false = true from hs) Bool.false_ne_true
  | int i =>
    obtain ⟨t, rfl⟩ := rx
    cases y with
    | non => cases ry; exact PySem.EqNone.eq_int_none (fin_bl I q (by simp))
    | int j => obtain ⟨t', rfl⟩ := ry; exact eq_int (fin_bl I q dec_int)
    | str j => obtain ⟨t', rfl⟩ := ry; exact PySem.EqMixed.eq_int_str (fin_bl I q (by simp))
    | _ => exact absurd (show false = true from hs) Bool.false_ne_true
  | str i =>
    obtain ⟨t, rfl⟩ := rx
    cases y with
    | non => cases ry; exact PySem.EqNone.eq_str_none (fin_bl I q (by simp))
    | bl j => cases ry; exact PySem.EqMixed.eq_str_bool (fin_bl I q (by simp))
    | int j => obtain ⟨t', rfl⟩ := ry; exact PySem.EqMixed.eq_str_int (fin_bl I q (by simp))
    | str j => obtain ⟨t', rfl⟩ := ry; exact eq_str (fin_bl I q dec_str)
    | _ => exact absurd (show false = true from hs) Bool.false_ne_true
  | byt i =>
    obtain ⟨t, rfl⟩ := rx
    cases y with
    | byt j => obtain ⟨t', rfl⟩ := ry; exact PySem.W.eq_bytes (fin_bl I q dec_byt)
    | _ => exact absurd (show false = true from hs) Bool.false_ne_true
  | _ => cases y <;> exact absurd (show false = true from hs) Bool.false_ne_true
theorem op_ne : OpR X (compareOp .NotEq) rNe := by
  intro pins s σ H x y v u Q I rx ry h
  obtain ⟨hs, q⟩ := h
  cases x with
  | non =>
    cases rx
    cases y with
    | non => cases ry; exact PySem.EqNone.ne_none_none (fin_bl I q (by simp))
    | bl j => cases ry; exact PySem.EqNone.ne_none_bool (fin_bl I q (by simp))
    | int j => obtain ⟨t', rfl⟩ := ry; exact PySem.EqNone.ne_none_int (fin_bl I q (by simp))
    | str j => obtain ⟨t', rfl⟩ := ry; exact PySem.EqNone.ne_none_str (fin_bl I q (by simp))
    | _ => exact absurd (show false = true from hs) Bool.false_ne_true
  | bl i =>
    cases rx
    cases y with
    | non => cases ry; exact PySem.EqNone.ne_bool_none (fin_bl I q (by simp))
    | bl j => cases ry; exact ne_bool (fin_bl I q (congrArg not dec_bl))
    | str j => obtain ⟨t', rfl⟩ := ry; exact PySem.EqMixed.ne_bool_str (fin_bl I q (by simp))
    | _ => exact absurd (show false = true from hs) Bool.false_ne_true
  | int i =>
    obtain ⟨t, rfl⟩ := rx
    cases y with
    | non => cases ry; exact PySem.EqNone.ne_int_none (fin_bl I q (by simp))
    | int j => obtain ⟨t', rfl⟩ := ry; exact ne_int (fin_bl I q (congrArg not dec_int))
    | str j => obtain ⟨t', rfl⟩ := ry; exact PySem.EqMixed.ne_int_str (fin_bl I q (by simp))
    | _ => exact absurd (show false = true from hs) Bool.false_ne_true
  | str i =>
    obtain ⟨t, rfl⟩ := rx
    cases y with
    | non => cases ry; exact PySem.EqNone.ne_str_none (fin_bl I q (by simp))
    | bl j => cases ry; exact PySem.EqMixed.ne_str_bool (fin_bl I q (by simp))
    | int j => obtain ⟨t', rfl⟩ := ry; exact PySem.EqMixed.ne_str_int (fin_bl I q (by simp))
    | str j => obtain ⟨t', rfl⟩ := ry; exact ne_str (fin_bl I q (congrArg not dec_str))
    | _ => exact absurd (show false = true from hs) Bool.false_ne_true
  | byt i =>
    obtain ⟨t, rfl⟩ := rx
    cases y with
    | byt j => obtain ⟨t', rfl⟩ := ry; exact PySem.W.ne_bytes (fin_bl I q (congrArg not dec_byt))
    | _ => exact absurd (show false = true from hs) Bool.false_ne_true
  | _ => cases y <;> exact absurd (show false = true from hs) Bool.false_ne_true

theorem op_lt : OpR X (compareOp .Lt) (rI0 fun i j => .bl (decide (i < j))) := opB0 fun _ _ _ _ _ _ _ q => lt_int q
theorem op_le : OpR X (compareOp .LtE) (rI0 fun i j => .bl (decide (i ≤ j))) := opB0 fun _ _ _ _ _ _ _ q => le_int q
theorem op_gt : OpR X (compareOp .Gt) (rI0 fun i j => .bl (decide (j < i))) := opB0 fun _ _ _ _ _ _ _ q => gt_int q
theorem op_ge : OpR X (compareOp .GtE) (rI0 fun i j => .bl (decide (j ≤ i))) := opB0 fun _ _ _ _ _ _ _ q => ge_int q
/-- the one string within the other -/
theorem op_in_str : OpR X (compareOp .In) (fun x y H Q => ∃ i j, x = .str i ∧ y = .str j ∧ Q (.bl (!(Builtin.Str.occurrences j i 0 j.length 1).isEmpty)) H) := by
  intro pins s σ H x y v u Q I rx ry h
  obtain ⟨i, j, rfl, rfl, q⟩ := h
  obtain ⟨t, rfl⟩ := rx
  obtain ⟨t', rfl⟩ := ry
  exact in_str (fin_bl I q rfl)

/-- is None, is not None: the right side a value none -/
theorem op_isN : OpR X (compareOp .Is) (fun x y H Q => y = .non ∧ Q (.bl (decide (x = .non))) H) := by
  intro pins s σ H x y v u Q I rx ry h
  obtain ⟨rfl, q⟩ := h
  cases ry
  refine is_none_gen (fin_bl I q ?_)
  cases x <;> first
    | (cases rx; rfl)
    | (obtain ⟨t, rfl⟩ := rx; rfl)



theorem nomark (b : Expr) {op : CmpOp} (h : op ≠ .In := by decide) (h2 : op ≠ .NotIn := by decide) : behindInMarks op b = false := by
  have e1 : (op == CmpOp.In) = false := by cases op <;> first | rfl | exact absurd rfl h
  have e2 : (op == CmpOp.NotIn) = false := by cases op <;> first | rfl | exact absurd rfl h2
  cases b <;> simp [behindInMarks, e1, e2]
/-- a comparison as a value; hm: nomark b, or (for in, not in) by with_unfolding_all rfl -/
theorem pe_cmpR {op : CmpOp} {r : R2} (ho : OpR X (compareOp op) r) (ha : PE X a ta) (hb : PE X b tb) (hm : behindInMarks op b = false) : PE X (.Compare a [op] [b] pos) (tOp r ta tb) := by
  intro pins s σ H Q I h
  exact wpAny_Compare1 (binT ha hb I h fun v u s2 x y H2 I2 rx ry q => ho pins s2 σ H2 x y v u Q I2 rx ry q) hm
/-- a reading of a value as a test -/
def tTest (t : TE) : TT := fun σ H Q => t σ H fun x H' => ∃ k, x = .bl k ∧ Q k H'
theorem pt_cmpR {op : CmpOp} {r : R2} (ho : OpR X (compareOp op) r) (ha : PE X a ta) (hb : PE X b tb) (hm : behindInMarks op b = false) : PT X (.Compare a [op] [b] pos) (tTest (tOp r ta tb)) := by
  intro pins s σ H Q I h
  refine wpAny_isTrue_Compare1 (thn (ha pins s σ H _ I h) fun v s1 ⟨x, H1, I1, r1, q1⟩ => thn (hb pins s1 σ H1 _ I1 q1) fun u s2 ⟨y, H2, I2, r2, q2⟩ =>
    thn (ho pins s2 σ H2 x y v u _ I2 r1 r2 q2) fun c s3 ⟨z, H3, I3, r3, k, e, q3⟩ => ?_) hm
  subst e
  cases r3
  exact wpAny_truthy_bool ⟨H3, I3, q3⟩
/-- a op1 b op2 c -/
def tChain (r r' : R2) (ta tb tc : TE) : TE := fun σ H Q => ta σ H fun x H1 => tb σ H1 fun y H2 => r x y H2 fun z H3 => ∃ k, z = .bl k ∧
  (if k = true then tc σ H3 fun w' H4 => r' y w' H4 Q else Q (.bl false) H3)
theorem pe_chain {op op' : CmpOp} {r r' : R2} (ho : OpR X (compareOp op) r) (ho' : OpR X (compareOp op') r') (ha : PE X a ta) (hb : PE X b tb) (hc : PE X c tc)
    (hm : lastMarks [op, op'] [b, c] = false := by with_unfolding_all rfl) : PE X (.Compare a [op, op'] [b, c] pos) (tChain r r' ta tb tc) := by
  intro pins s σ H Q I h
  refine Compare_chain (thn (ha pins s σ H _ I h) fun v s1 ⟨x, H1, I1, r1, q1⟩ => chain_link (thn (hb pins s1 σ H1 _ I1 q1) fun u s2 ⟨y, H2, I2, r2, q2⟩ =>
    thn (ho pins s2 σ H2 x y v u _ I2 r1 r2 q2) fun d s3 ⟨z, H3, I3, r3, k, e, q3⟩ => ?_)) hm
  subst e
  cases r3
  refine wpAny_truthy_bool ?_
  cases k with
  | false => exact ite_ff ⟨.bl false, H3, I3, rfl, q3⟩
  | true => exact ite_tt (chain_last (thn (hc pins s3 σ H3 _ I3 q3) fun w' s4 ⟨z', H4, I4, r4, q4⟩ => ho' pins s4 σ H4 y z' u w' Q I4 r2 r4 q4))

/-! ### truth -/
theorem line63 : (sizeLine : Nat) < 2 ^ 63 := by rw [sizeLine_eq]; decide

/-! ### strs and bytes -/
theorem op_add_str : OpR X (binaryOp .Add) (fun x y H Q => ∃ i j, x = .str i ∧ y = .str j ∧ i.length + j.length ≤ sizeLine ∧ Q (.str (i ++ j)) H) := by
  intro pins s σ H x y v u Q I rx ry h
  obtain ⟨i, j, rfl, rfl, hz, q⟩ := h
  obtain ⟨t, rfl⟩ := rx
  obtain ⟨t', rfl⟩ := ry
  exact add_str (fun t' tk => ⟨.str (i ++ j), H, I.tok _, ⟨_, rfl⟩, q⟩) hz


/-! ### scalar builtins, by CallR -/
theorem vals1 {x : V} {us : List Value} (r : Vals [x] us) : ∃ u, us = [u] ∧ RelV x u := by
  cases r with
  | cons r1 r2 => cases r2; exact ⟨_, rfl, r1⟩
theorem vals2 {x y : V} {us : List Value} (r : Vals [x, y] us) : ∃ u w', us = [u, w'] ∧ RelV x u ∧ RelV y w' := by
  cases r with
  | cons r1 r2 =>
    cases r2 with
    | cons r3 r4 => cases r4; exact ⟨_, _, rfl, r1, r3⟩
theorem call_abs : CallR X (.builtin "abs") (fun xs H Q => ∃ i, xs = [.int i] ∧ Q (.int (if i < 0 then -i else i)) H) := by
  intro pins s σ H xs us Q I r h
  obtain ⟨i, rfl, q⟩ := h
  obtain ⟨u, rfl, t, rfl⟩ := vals1 r
  exact call_abs_int fun u tk => ⟨.int (if i < 0 then -i else i), H, I.tok _, ⟨_, rfl⟩, q⟩
theorem call_max2 (hc : X.calm = true) : CallR X (.builtin "max") (fun xs H Q => ∃ i j, xs = [.int i, .int j] ∧ Q (.int (if j > i then j else i)) H) := by
  intro pins s σ H xs us Q I r h
  obtain ⟨i, j, rfl, q⟩ := h
  obtain ⟨u, w', rfl, ⟨t, rfl⟩, ⟨t', rfl⟩⟩ := vals2 r
  refine max_two_ints (I.ok.hd hc) fun h' tk k => ⟨_, H, I.kept k, ?_, q⟩
  by_cases hj : j > i
  · rw [if_pos hj, if_pos hj]; exact ⟨_, rfl⟩
  · rw [if_neg hj, if_neg hj]; exact ⟨_, rfl⟩
theorem call_int1 : CallR X (.type "int") (fun xs H Q => (∃ i, xs = [.int i] ∧ Q (.int i) H) ∨ ∃ k, xs = [.bl k] ∧ Q (.int (if k then 1 else 0)) H) := by
  intro pins s σ H xs us Q I r h
  rcases h with ⟨i, rfl, q⟩ | ⟨k, rfl, q⟩
  · obtain ⟨u, rfl, t, rfl⟩ := vals1 r
    exact call_int_int ⟨.int i, H, I, ⟨_, rfl⟩, q⟩
  · obtain ⟨u, rfl, r1⟩ := vals1 r
    cases r1
    exact call_int_bool ⟨.int (if k then 1 else 0), H, I.tok _, ⟨_, rfl⟩, q⟩
theorem call_str_int : CallR X (.type "str") (fun xs H Q => ∃ i, xs = [.int i] ∧ i.natAbs.log2 < 1920 ∧ Q (.str (toString i)) H) := by
  intro pins s σ H xs us Q I r h
  obtain ⟨i, rfl, hz, q⟩ := h
  obtain ⟨u, rfl, t, rfl⟩ := vals1 r
  exact PySem.P.str_of_int hz ⟨.str _, H, I.tok _, ⟨_, rfl⟩, q⟩
end
end L2

namespace L2
open PySem PySem.Spec PyProof.Rows

/-! ### an instance, its attributes a map -/
structure ObjM (h : Heap) (x dx C : Addr) (mA : Str → Option Value) : Prop where
  obj : h.get? x = some (PySem.W.instObj C dx)
  ns : h.Ns1 dx mA
  ne : dx ≠ x

theorem lookIn_ns {h : Heap} {dx : Addr} {mA : Str → Option Value} (n : h.Ns1 dx mA) : ∃ od, h.get? dx = some od ∧ ∀ name, PySem.W.lookIn name od = some (mA name) := by
  obtain ⟨o, es, ep, ho, hd, hk, _, hm⟩ := n
  refine ⟨o, ho, fun name => ?_⟩
  have e := hm name
  unfold nsFind findBy at e
  rw [← Array.find?_toList] at e
  unfold PySem.W.lookIn
  rw [hd]
  dsimp only
  split
  · rename_i y q
    rw [q] at e
    exact congrArg some e
  · rename_i q
    rw [q] at e
    have a : es.toList.any (·.refKey) = false := by
      rw [List.any_eq_false]
      intro y hy
      obtain ⟨z, t, hkey⟩ := hk y (Array.mem_toList_iff.mp hy)
      simp [DictEntry.refKey, hkey]
    have a' : ¬ es.toList.any (·.refKey) = true := by rw [a]; exact Bool.false_ne_true
    rw [if_neg a']
    exact congrArg some e

theorem ObjM.look {h : Heap} {x dx C : Addr} {mA : Str → Option Value} (I : ObjM h x dx C mA) : ∃ od, PySem.W.InstAt h x (PySem.W.instObj C dx) C (some od) ∧ ∀ name, PySem.W.lookIn name od = some (mA name) :=
  let ⟨od, ho, hl⟩ := lookIn_ns I.ns
  ⟨od, ⟨I.obj, rfl, rfl, ho⟩, hl⟩

section
variable {prog : Program} {w : World} {A : Around} {E : Value → Shared → Prop} {s : Shared} {K : PySem.W.Frag} {x dx C f : Addr} {mA : Str → Option Value} {name : Str} {v : Value}





end

/-! ### the attributes as a list of pairs -/


section
variable {P : Program} {w : World} {H H' : Hp} {h h' : Heap} {a C dx : Addr} {fs fs' : List (Str × V)}
theorem ins_get (hok : HOk P w H h) (e : H a = some (.ins C dx fs)) : ∃ mA, ObjM h a dx C mA ∧ (∀ f, RelO (fs.lookup f) (mA f)) ∧ PySem.Within mA (fs.map (·.1)) ∧ fs.length ≤ 1000 ∧ H dx = some (.own a) := by
  obtain ⟨d, z, ne, ob, mA, n, r, q⟩ := (show ObjOk P w H h a (.ins C dx fs) from hok a _ e)
  exact ⟨mA, ⟨ob, n, ne⟩, r, q, z, d⟩
end

/-! ### what of the text a class must have -/
structure Cls (K : PySem.W.Frag) (C : Addr) : Prop where
  pg : PySem.W.plainGet K C Str.empty = true
  hd : PySem.W.hasDictIn K C = true
  po : PySem.W.plainOver K C = true
  sa : PySem.W.findIn K (.ref C) "__setattr__" = some (some (.builtin "object.__setattr__"))
theorem Cls.get {K : PySem.W.Frag} {C : Addr} (c : Cls K C) (f : Str) : PySem.W.plainGet K C f = true := c.pg

section
variable {X : Cx} {pins : List (Addr × Obj)} {σ : St} {H : Hp} {s : Shared} {a C dx : Addr} {fs : List (Str × V)} {f : Str} {v : V} {A : Around} {E : Value → Shared → Prop}






end

/-! ### readings and rules -/

section
variable {X : Cx} {o e value : Expr} {f : Str} {pos pos' tpos : Pos} {ta tv : TE}

end

/-! ### isinstance -/
section
variable {X : Cx} {pins : List (Addr × Obj)} {σ : St} {H : Hp} {s : Shared} {A : Around} {E : Value → Shared → Prop} {Q : Value → Shared → Prop} {c : Value} {b : Bool}
/-- the type of a value, as the fragment's deciders take it; for an instance its class -/
inductive TyOf (K : PySem.W.Frag) (H : Hp) : V → Value → Prop where
  | non : TyOf K H .non (.type "NoneType")
  | bl (x : Bool) : TyOf K H (.bl x) (.type "bool")
  | int (i : Int) : TyOf K H (.int i) (.type "int")
  | str (x : Str) : TyOf K H (.str x) (.type "str")
  | flt (x : UInt64) : TyOf K H (.flt x) (.type "float")
  | lst {a : Addr} {xs : List V} (e : H a = some (.lst xs)) : TyOf K H (.ref a) (.type "list")
  | frz {a : Addr} {o : Obj} {xs : List V} (e : H a = some (.frz o (.lst xs))) : TyOf K H (.ref a) (.type "list")
  | tup {a : Addr} {xs : List V} (e : H a = some (.tup xs)) : TyOf K H (.ref a) (.type "tuple")
  | dK {a : Addr} {kvs : List (Key × V)} (e : H a = some (.dK kvs)) : TyOf K H (.ref a) (.type "dict")
  | dT {a : Addr} {kvs : List (List Key × V)} (e : H a = some (.dT kvs)) : TyOf K H (.ref a) (.type "dict")
  | ins {a C dx : Addr} {fs : List (Str × V)} (e : H a = some (.ins C dx fs)) (cl : Cls K C) (ha : PySem.W.findIn K (.ref C) "__class__" = some (some (.builtin "object.__class__")))
      (hn : PySem.W.specialIn K (.builtin "object.__class__") "__get__" = some (some (.builtin "getset_descriptor.__get__"))) (htk : PySem.W.takesIn K (.builtin "object.__class__") = some true)
      (hm : PySem.W.mroIn K C (.type "object") = some true) : TyOf K H (.ref a) (.ref C)
/-- isinstance(x, c) for one class c, a built-in or an own one: kitOne's answer -/
theorem isinst_ok {x : V} {u t : Value} (I : Inv X pins σ H s) (rx : RelV x u) (ty : TyOf X.K H x t) (e : PySem.W.kitOne X.K t c = some b) (h : ∀ tk, Q (.bool b) { s with toks := tk }) :
    wpAny (model X.prog X.w) A (call (.builtin "isinstance") [u, c]) Q E s := by
  cases ty with
  | non => cases (show u = Value.none from rx); exact PySem.W.kia_one PySem.W.kitx_none I.kIn True.intro e (fun z => nomatch z) h
  | bl y => cases (show u = Value.bool y from rx); exact PySem.W.kia_one PySem.W.kitx_bool I.kIn True.intro e (fun z => nomatch z) h
  | int i => obtain ⟨t, q⟩ := (show ∃ t, u = Value.int i t from rx); cases q; exact PySem.W.kia_one PySem.W.kitx_int I.kIn True.intro e (fun z => nomatch z) h
  | str y => obtain ⟨t, q⟩ := (show ∃ t, u = Value.str y t from rx); cases q; exact PySem.W.kia_one PySem.W.kitx_str I.kIn True.intro e (fun z => nomatch z) h
  | flt y => obtain ⟨t, q⟩ := (show ∃ t, u = Value.float y t from rx); cases q; exact PySem.W.kia_one PySem.W.kitx_float I.kIn True.intro e (fun z => nomatch z) h
  | @lst a xs ea =>
    cases (show u = Value.ref a from rx)
    obtain ⟨_, _, n, _, h1⟩ := (show ObjOk X.prog X.w H s.heap a (.lst xs) from I.hok a _ ea)
    exact PySem.W.kia_one PySem.W.kitx_list I.kIn ⟨_, h1, rfl⟩ e (fun z => nomatch z) h
  | @frz a ob xs ea =>
    cases (show u = Value.ref a from rx)
    obtain ⟨_, _, _, n, _, h1⟩ := (show ObjOk X.prog X.w H s.heap a (.frz ob (.lst xs)) from I.hok a _ ea)
    exact PySem.W.kia_one PySem.W.kitx_list I.kIn ⟨_, h1, rfl⟩ e (fun z => nomatch z) h
  | @tup a xs ea =>
    cases (show u = Value.ref a from rx)
    obtain ⟨_, _, _, p⟩ := (show ObjOk X.prog X.w H s.heap a (.tup xs) from I.hok a _ ea)
    obtain ⟨o, h1, h2, _⟩ := p
    exact PySem.W.kia_one PySem.W.kitx_tuple I.kIn ⟨o, h1, h2⟩ e (fun z => nomatch z) h
  | @dK a kvs ea =>
    cases (show u = Value.ref a from rx)
    obtain ⟨_, _, vs, _, p⟩ := (show ObjOk X.prog X.w H s.heap a (.dK kvs) from I.hok a _ ea)
    obtain ⟨o, es, ep, h1, h2, _⟩ := p
    exact PySem.W.kia_one PySem.W.kitx_dict I.kIn ⟨o, h1, h2.1⟩ e (fun z => nomatch z) h
  | @dT a kvs ea =>
    cases (show u = Value.ref a from rx)
    obtain ⟨_, _, xs, _, o, es, ep, h1, h2, _⟩ := (show ObjOk X.prog X.w H s.heap a (.dT kvs) from I.hok a _ ea)
    exact PySem.W.kia_one PySem.W.kitx_dict I.kIn ⟨o, h1, h2.1⟩ e (fun z => nomatch z) h
  | @ins a C dx fs ea cl ha hn htk hm =>
    cases (show u = Value.ref a from rx)
    obtain ⟨mA, O, _⟩ := ins_get I.hok ea
    obtain ⟨od, J, _⟩ := O.look
    exact PySem.W.kia_one (PySem.W.kitx_own (cl.get _) cl.hd ha hn htk hm) I.kIn J e (fun z => nomatch z) h
end
end L2

namespace L2
open PySem PySem.Spec PyProof.Rows

/-! ### room -/
structure Room (k : Nat) (A : Around) : Prop where
  hd : A.handled = none
  dp : A.depth + 3 * k + 5 < recursionLimit
  un : A.units + 16 * k + 200 < cLine
theorem Room.mono {j k : Nat} {A : Around} (r : Room k A) (h : j ≤ k) : Room j A := ⟨r.hd, by have := r.dp; omega, by have := r.un; omega⟩
theorem Room.deeper {k : Nat} {A : Around} (r : Room (k + 1) A) (env : Env) : Room k (A.deeper env) :=
  ⟨r.hd, by have := r.dp; show A.depth + 1 + 3 * k + 5 < _; omega, by have := r.un; show A.units + 3 + 16 * k + 200 < _; omega⟩
theorem Room.depth {k : Nat} {A : Around} (r : Room k A) : A.depth < recursionLimit := by have := r.dp; omega
theorem Room.units {k : Nat} {A : Around} (r : Room k A) : A.units + 64 < cLine := by have := r.un; omega

/-! ### argument lists and displays -/
def tNil : TA := fun _ H Q => Q [] H
def tCons (ta : TE) (tr : TA) : TA := fun σ H Q => ta σ H fun x H1 => tr σ H1 fun xs H2 => Q (x :: xs) H2
section
variable {X : Cx} {e : Expr} {es : List Expr} {te : TE} {t : TA} {pos : Pos}
theorem pa_nil : PA X [] tNil := fun _ _ _ _ H Q I h => Calls.spliced_nil ⟨[], H, I, .nil, h⟩
theorem pa_cons (ha : PE X e te) (hr : PA X es t) (hs : starEach (e :: es) X.env = (false, eval e X.env) :: starEach es X.env := by rfl) : PA X (e :: es) (tCons te t) := by
  intro pos pins s σ H Q I h
  rw [hs]
  show wpAny _ _ (spliced ((false, eval e X.env) :: backTo pos (starEach es X.env))) _ _ s
  refine Calls.spliced_cons (thn (ha pins s σ H _ I h) fun u s1 ⟨x, H1, I1, r1, q1⟩ => ?_)
  exact thn (hr pos pins s1 σ H1 _ I1 q1) fun us s2 ⟨xs, H2, I2, r2, q2⟩ => ⟨x :: xs, H2, I2, .cons r1 r2, q2⟩

/-- a tuple, a list of written items -/
def tTup (t : TA) : TE := fun σ H Q => t σ H fun xs H1 => xs.length ≤ sizeLine ∧ ∀ p, H1 p = none → Q (.ref p) (upd H1 p (.tup xs))
def tLst (t : TA) : TE := fun σ H Q => t σ H fun xs H1 => xs.length ≤ sizeLine ∧ ∀ p, H1 p = none → Q (.ref p) (upd H1 p (.lst xs))
theorem pe_tup {x1} (h : PA X es t) : PE X (.Tuple es x1 pos) (tTup t) := by
  intro pins s σ H Q I hq
  refine wpAny_Tuple_spliced (thn (h pos pins s σ H _ I hq) fun us s1 ⟨xs, H1, I1, r, z, q⟩ => ⟨by rw [← r.length]; exact z, ?_⟩)
  have hf : H1 s1.heap.objs.size = none := I1.hok.fresh (Nat.le_refl _)
  refine ⟨.ref s1.heap.objs.size, upd H1 s1.heap.objs.size (.tup xs), I1.laid (t' := s1.toks) (fun b u e => Heap.get?_push_of_some _ e) (Nat.le_refl _) ?_, rfl, q _ hf⟩
  exact ⟨z, us, r, ⟨_, Heap.get?_push_size _ rfl, rfl, _, rfl⟩⟩
theorem pe_lst (h : PA X es t) : PE X (.List es pos) (tLst t) := by
  intro pins s σ H Q I hq
  refine wpAny_List_spliced (thn (h pos pins s σ H _ I hq) fun us s1 ⟨xs, H1, I1, r, z, q⟩ => ⟨by rw [← r.length]; exact z, ?_⟩)
  have hf : H1 s1.heap.objs.size = none := I1.hok.fresh (Nat.le_refl _)
  refine ⟨.ref s1.heap.objs.size, upd H1 s1.heap.objs.size (.lst xs), I1.laid (t' := s1.toks) (fun b u e => Heap.get?_push_of_some _ e) (Nat.le_refl _) ?_, rfl, q _ hf⟩
  exact ⟨z, us, 0, r, Heap.get?_push_size _ rfl⟩
end

/-! ### what a def promises -/
/-- a def's promise: the bound arguments in the parameters' order, the heap, the wanted end, the wanted exception -/
abbrev Sp := List V → Hp → VK → XK → Prop
/-- how an exception lies behind a call (file 08 gives it): the callers' frames, abstract heap and state ahead of the call, the wish, the exception, the state -/
abbrev CXT := List Env → Hp → Shared → XK → Value → Shared → Prop

/-- the state at a call -/
structure Env0 (P : Program) (w : World) (K : PySem.W.Frag) (mg : Str → Option Value) (base : Heap) (A : Around) (outer : List Env) (s : Shared) (H : Hp) : Prop where
  frames : A.frames = some outer
  mod : Mod K mg base
  bs : ∀ b o, base.get? b = some o → s.heap.get? b = some o ∧ H b = none
  bsz : base.objs.size ≤ s.heap.objs.size
  funs : s.heap.FunFrames base outer
  frf : ∀ b ∈ frs outer, H b = none
  hok : HOk P w H s.heap
  bare : AllBare s.gens
/-- a call's end -/
def CE (outer : List Env) (P : Program) (w : World) (H : Hp) (s : Shared) (Q : VK) (u : Value) (s' : Shared) : Prop :=
  ∃ v H', s'.os = s.os ∧ AllBare s'.gens ∧ Un (frs outer) [] H H' s.heap s'.heap ∧ HOk P w H' s'.heap ∧ RelV v u ∧ Q v H'
def CR (CX : CXT) (outer : List Env) (P : Program) (w : World) (H : Hp) (s : Shared) (Q : VK) (E : XK) (r : Result) (s' : Shared) : Prop :=
  match r with
  | .ok (.ret u) => CE outer P w H s Q u s'
  | .ok _ => False
  | .error e => CX outer H s E e s'
structure FnOk (P : Program) (w : World) (K : PySem.W.Frag) (mg : Str → Option Value) (base : Heap) (CX : CXT) (k : Nat) (f : Addr) (fd : FuncData) (ps : List Str) (sp : Sp) : Prop where
  len : ∀ vs H Q E, sp vs H Q E → vs.length = ps.length
  run : ∀ (A : Around) (outer : List Env) (s : Shared) (H : Hp) (args : Args) (us : List Value) (vs : List V) (Q : VK) (E : XK), Room k A → Env0 P w K mg base A outer s H → BindsTo s fd args (ps.zip us) → Vals vs us → sp vs H Q E →
    codeAny (model P w) A (.call (.ref f) args) (CR CX outer P w H s Q E) s
theorem FnOk.mono {P : Program} {w : World} {K : PySem.W.Frag} {mg : Str → Option Value} {base : Heap} {CX : CXT} {j k : Nat} {f : Addr} {fd : FuncData} {ps : List Str} {sp : Sp} (F : FnOk P w K mg base CX j f fd ps sp) (h : j ≤ k) :
    FnOk P w K mg base CX k f fd ps sp := ⟨F.len, fun A outer s H args us vs Q E hr => F.run A outer s H args us vs Q E (hr.mono h)⟩
/-- a weaker promise -/
theorem FnOk.imp {P : Program} {w : World} {K : PySem.W.Frag} {mg : Str → Option Value} {base : Heap} {CX : CXT} {k : Nat} {f : Addr} {fd : FuncData} {ps : List Str} {sp sp' : Sp} (F : FnOk P w K mg base CX k f fd ps sp)
    (h : ∀ vs H Q E, sp' vs H Q E → sp vs H Q E) : FnOk P w K mg base CX k f fd ps sp' :=
  ⟨fun vs H Q E q => F.len vs H Q E (h _ _ _ _ q), fun A outer s H args us vs Q E hr he hb hv hs => F.run A outer s H args us vs Q E hr he hb hv (h _ _ _ _ hs)⟩


section
variable {X : Cx} {pins : List (Addr × Obj)} {σ : St} {H : Hp} {s s' : Shared}
/-- from a body: what a callee wants -/
theorem Inv.env0 (I : Inv X pins σ H s) : Env0 X.prog X.w X.K X.mg X.base X.A X.stack s H :=
  ⟨I.ok.frames, I.ok.mod, I.bs, Nat.le_trans I.ok.bsz I.sz, I.stack, I.stkFree, I.hok, I.bare⟩
/-- behind a call -/
theorem Inv.after {Q : VK} {u : Value} (I : Inv X pins σ H s) (h : CE X.stack X.prog X.w H s Q u s') : EP X pins σ Q u s' := by
  obtain ⟨v, H', os, bare, un, hok, r, q⟩ := h
  obtain ⟨hh, g, d, t, os'⟩ := s'
  obtain rfl : os' = s.os := os
  exact ⟨v, H', I.call (h' := hh) (g' := g) (d' := d) (t' := t) (ch := []) un hok bare (fun b z => absurd z (by simp)), r, q⟩
end

/-! ### calls -/
/-- f(..): the written arguments, then the defaults dvs; E: what is wanted of an exception -/
def tCall (sp : Sp) (dvs : List V) (E : XK) (t : TA) : TE := fun σ H Q => t σ H fun vs H1 => sp (vs ++ dvs) H1 Q E

/-- how the parameters are bound: us the positional arguments, kw the keywords' values by name, ds the defaults that fill up -/
def Binds (K : PySem.W.Frag) (fd : FuncData) (ps : List Str) (ds : List Value) : Prop :=
  ∀ (s : Shared) (us : List Value), K.In s.heap → (us ++ ds).length = ps.length → BindsTo s fd ⟨us, []⟩ (ps.zip (us ++ ds))
/-- every parameter is given -/
theorem Binds.all {K : PySem.W.Frag} {fd : FuncData} {ps : List Str} (h : ∀ us : List Value, us.length = ps.length → bindArgs fd ⟨us, []⟩ = pure (ps.zip us)) : Binds K fd ps [] := fun s us _ hl => by
  rw [List.append_nil] at hl ⊢
  exact .of_eq (h us hl)

/-- an exception of a callee reaches what this body wants of exceptions -/
def Passes (CX : CXT) (X : Cx) (E : XK) : Prop := ∀ (pins : List (Addr × Obj)) (σ : St) (H : Hp) (s : Shared) (e : Value) (s' : Shared), Inv X pins σ H s → CX X.stack H s E e s' → X.xe e s'

section
variable {X : Cx} {CX : CXT} {k : Nat} {f C : Addr} {fd : FuncData} {ps : List Str} {sp : Sp} {dvs : List V} {ds : List Value} {E : XK} {x m : Str} {p pos apos : Pos} {e o : Expr} {es : List Expr} {ta : TE} {t : TA}

/-- the callee runs -/
theorem run_fn {pins : List (Addr × Obj)} {σ : St} {H : Hp} {s : Shared} {Q : VK} {us : List Value} {vs : List V} (F : FnOk X.prog X.w X.K X.mg X.base CX k f fd ps sp) (hr : Room k X.A) (hb : Binds X.K fd ps ds) (hd : Vals dvs ds) (hx : Passes CX X E)
    (I : Inv X pins σ H s) (r : Vals vs us) (h : sp (vs ++ dvs) H Q E) : wpAny (model X.prog X.w) X.A (call (.ref f) us) (EP X pins σ Q) X.xe s := by
  have r2 : Vals (vs ++ dvs) (us ++ ds) := r.append hd
  have hl : (us ++ ds).length = ps.length := by rw [← r2.length]; exact F.len _ _ _ _ h
  refine wpAny_call (codeAny_mono (F.run X.A X.stack s H ⟨us, []⟩ (us ++ ds) (vs ++ dvs) Q E hr I.env0 (hb s us I.kIn hl) r2 h) fun r s' hq => ?_)
  cases r with
  | error e => exact hx pins σ H s e s' I hq
  | ok fl =>
    cases fl with
    | ret u => exact I.after hq
    | next => exact False.elim hq
    | brk => exact False.elim hq
    | cont => exact False.elim hq

theorem pe_call (F : FnOk X.prog X.w X.K X.mg X.base CX k f fd ps sp) (hr : Room k X.A) (hg : Gl X x) (hm : X.mg x = some (.ref f)) (hk : PySem.W.keepIn X.K (.ref f) = true) (hb : Binds X.K fd ps ds) (hd : Vals dvs ds) (hx : Passes CX X E)
    (ha : PA X (e :: es) t) (hdb : (x == ("__debug__" : Str)) = false := by decide) (he : starEach (e :: es) X.env = (false, eval e X.env) :: starEach es X.env := by rfl) (hpl : (backTo pos (starEach es X.env)).any (·.1) = false := by rfl) :
    PE X (.Call (.Name x p) (e :: es) [] pos) (tCall sp dvs E t) := by
  intro pins s σ H Q I h
  refine wpAny_Call_Name_kw (ld_glob I hg hm ?_ hdb)
  refine PySem.W.callWith_K (h₀ := X.base) I.ok.mod.kin hk (thn (ha pos pins s σ H _ I h) fun us s1 ⟨vs, H1, I1, r, q⟩ => ⟨I1.kIn, ?_⟩) he hpl
  exact run_fn F hr hb hd hx I1 r q



end

/-! ### keywords -/
section
variable {X : Cx} {CX : CXT} {k : Nat} {f C : Addr} {fd : FuncData} {ps ks : List Str} {sp : Sp} {E : XK} {x m : Str} {p pos apos kpos : Pos} {e o : Expr} {es : List Expr} {kws : List Keyword} {te ta : TE} {t tk : TA} {nm : Option Str}

variable {g : List Value → List Value → List Value} {gV : List V → List V → List V}
end

/-! ### a def's body keeps its promise -/
/-- names: the parameters first -/
structure FnScope (N P : List Str) (sc : Scope) : Prop where
  kind : sc.kind = .function
  co : sc.isCoroutine = false
  gen : sc.isGenerator = false
  nd : N.Nodup
  pre : N.take P.length = P
  par : ∀ x ∈ P, sc.names.lookup x = some .local ∨ sc.names.lookup x = some .cell
  nofree : ∀ y ∈ sc.names, y.2 ≠ .free

theorem bindL_out {kindOf : Str → Option NameKind} {x : Str} : ∀ {binds : List (Str × Value)} {m : Str → Option Value}, (∀ v, (x, v) ∉ binds) → bindL kindOf binds m x = m x
  | [], _, _ => rfl
  | (n, v) :: r, m, h => by
    unfold bindL
    rw [bindL_out fun w hw => h w (List.mem_cons_of_mem _ hw)]
    split
    · have : x ≠ n := by rintro rfl; exact h v List.mem_cons_self
      simp [this]
    · rfl
theorem bindC_out {kindOf : Str → Option NameKind} {x : Str} : ∀ {binds : List (Str × Value)} {m : Str → Option Value}, (∀ v, (x, v) ∉ binds) → bindC kindOf binds m x = m x
  | [], _, _ => rfl
  | (n, v) :: r, m, h => by
    unfold bindC
    rw [bindC_out fun w hw => h w (List.mem_cons_of_mem _ hw)]
    split
    · rfl
    · have : x ≠ n := by rintro rfl; exact h v List.mem_cons_self
      simp [this]
theorem bindL_get {kindOf : Str → Option NameKind} {x : Str} {v : Value} : ∀ {P : List Str} {vs : List Value} {i : Nat} {m : Str → Option Value}, P.Nodup → P[i]? = some x → vs[i]? = some v → kindOf x = some .local →
    bindL kindOf (P.zip vs) m x = some v
  | [], _, _, _, _, h, _, _ => by simp at h
  | _ :: _, [], _, _, _, _, h, _ => by simp at h
  | p :: P, w :: vs, 0, m, nd, h1, h2, hk => by
    simp at h1 h2; subst h1; subst h2
    show bindL kindOf ((p, w) :: P.zip vs) m p = _
    unfold bindL
    rw [bindL_out fun v hv => (List.nodup_cons.mp nd).1 (List.of_mem_zip hv).1, if_pos hk]
    simp
  | p :: P, w :: vs, i + 1, m, nd, h1, h2, hk => by
    show bindL kindOf ((p, w) :: P.zip vs) m x = _
    unfold bindL
    exact bindL_get (i := i) (List.nodup_cons.mp nd).2 (by simpa using h1) (by simpa using h2) hk
theorem bindC_get {kindOf : Str → Option NameKind} {x : Str} {v : Value} : ∀ {P : List Str} {vs : List Value} {i : Nat} {m : Str → Option Value}, P.Nodup → P[i]? = some x → vs[i]? = some v → kindOf x ≠ some .local →
    bindC kindOf (P.zip vs) m x = some v
  | [], _, _, _, _, h, _, _ => by simp at h
  | _ :: _, [], _, _, _, _, h, _ => by simp at h
  | p :: P, w :: vs, 0, m, nd, h1, h2, hk => by
    simp at h1 h2; subst h1; subst h2
    show bindC kindOf ((p, w) :: P.zip vs) m p = _
    unfold bindC
    rw [bindC_out fun v hv => (List.nodup_cons.mp nd).1 (List.of_mem_zip hv).1, if_neg hk]
    simp
  | p :: P, w :: vs, i + 1, m, nd, h1, h2, hk => by
    show bindC kindOf ((p, w) :: P.zip vs) m x = _
    unfold bindC
    exact bindC_get (i := i) (List.nodup_cons.mp nd).2 (by simpa using h1) (by simpa using h2) hk

/-- the names' values at the entry -/
def start (N : List Str) (vs : List V) : St := vs.map some ++ List.replicate (N.length - vs.length) none

/-- the context of a def's body, at its entry; an exception leaves the frame, then lies as CX says -/
def cxOf (CX : CXT) (P : Program) (w : World) (K : PySem.W.Frag) (mg : Str → Option Value) (base : Heap) (N : List Str) (qual : Str) (scope : Scope) (f : Addr) (cd : Value) (A : Around) (outer : List Env) (s : Shared) (H : Hp) (E : XK) : Cx where
  prog := P
  w := w
  K := K
  mg := mg
  base := base
  A := A.deeper (envOfC qual scope s.heap.objs.size f cd)
  N := N
  s₀ := s
  H₀ := H
  env := envOfC qual scope s.heap.objs.size f cd
  outer := outer
  stack := envOfC qual scope s.heap.objs.size f cd :: outer
  ex := []
  calm := true
  fn := fun _ => true
  pn := []
  xe := fun e s' => wpAny (model P w) (A.deeper (envOfC qual scope s.heap.objs.size f cd)) (leaving (envOfC qual scope s.heap.objs.size f cd) e) (fun _ s'' => CX outer H s E e s'') (fun e' s'' => CX outer H s E e' s'') s'

theorem cell_has {sc : Scope} {n : Nat} {x : Str} (h : sc.names.lookup x = some .cell) : ∃ c, (cellsFrom n sc.names []).lookup x = some c := by
  have q := PySem.W.cellsFrom_some sc.names n [] (.inl h)
  exact Option.isSome_iff_exists.mp q

theorem inv_start {CX : CXT} {P : Program} {w : World} {K : PySem.W.Frag} {mg : Str → Option Value} {base : Heap} {N ps : List Str} {qual : Str} {scope : Scope} {f : Addr} {cd : Value} {A : Around} {outer : List Env} {s s1 : Shared} {H : Hp} {E : XK} {us : List Value} {vs : List V}
    (S : FnScope N ps scope) (hd : A.handled = none) (e0 : Env0 P w K mg base A outer s H) (hl : vs.length = ps.length) (r : Vals vs us)
    (x : InCallC s s.heap.objs.size (bindL (envOfC qual scope s.heap.objs.size f cd).kindOf (ps.zip us) fun _ => none) (cellsFrom (s.heap.objs.size + 1) scope.names []) (bindC (envOfC qual scope s.heap.objs.size f cd).kindOf (ps.zip us) fun _ => none) s1) :
    Inv (cxOf CX P w K mg base N qual scope f cd A outer s H E) [] (start N vs) H s1 := by
  have hpl : ps.length ≤ N.length := by have := congrArg List.length S.pre; rw [List.length_take] at this; omega
  obtain ⟨h1, tk, rfl, hk⟩ := x.done
  have noA : ∀ b : Addr, b ∉ (cxOf CX P w K mg base N qual scope f cd A outer s H E).ex := fun b z => absurd (show b ∈ ([] : List Addr) from z) (by simp)
  refine ⟨⟨e0.mod, S.kind, rfl, rfl, Nat.le_refl _, fun y z c h1 h2 => ?_, fun y hy => ?_, fun y c _ h => ?_, fun _ => hd, Around.frames_deeper e0.frames, .inr ⟨rfl, rfl⟩, fun b z => absurd z (noA b), e0.bs, e0.bsz, fun b _ _ => noA b, fun b z => absurd z (noA b), e0.funs, e0.frf⟩,
    rfl, e0.bare, Un.kept hk, ⟨_, x.toInCall.ns, fun i y v h1 h2 h3 => ?_⟩, fun y c h => ⟨_, x.cell y c h⟩, e0.hok.fresh (Nat.le_refl _), fun y c h => ?_, fun p hp => absurd (show p ∈ ([] : List (Addr × Obj)) from hp) (by simp), e0.hok.kept hk, ?_⟩
  · exact name_of_addr x.apart (PySem.mem_of_lookup h1) (PySem.mem_of_lookup h2)
  · have hy : scope.names.lookup y = some .cell ∨ scope.names.lookup y = some .free := hy
    rcases hy with hy | hy
    · exact cell_has hy
    · exact absurd rfl (S.nofree _ (PySem.mem_of_lookup hy))
  · exact Nat.le_of_lt (x.above y c (PySem.mem_of_lookup h))
  · have hi : i < vs.length := by
      unfold start at h2
      by_cases hi : i < vs.length
      · exact hi
      · rw [List.getElem?_append_right (by simpa using hi)] at h2
        rw [List.getElem?_replicate] at h2
        split at h2 <;> cases h2
    have ha : vs[i]? = some v := by
      unfold start at h2
      rw [List.getElem?_append_left (by simpa using hi), List.getElem?_map] at h2
      cases e : vs[i]? with
      | none => rw [e] at h2; cases h2
      | some a => rw [e] at h2; cases h2; rfl
    obtain ⟨u, hu, rv⟩ := r.get ha
    have hp : ps[i]? = some y := by
      rw [← S.pre, List.getElem?_take_of_lt (by omega)]; exact h1
    have ndP : ps.Nodup := by rw [← S.pre]; exact S.nd.sublist (List.take_sublist _ _)
    refine ⟨u, rv, ?_⟩
    rcases S.par y (List.mem_of_getElem? hp) with k | k
    · exact .inl ⟨k, bindL_get ndP hp hu k⟩
    · obtain ⟨c, e⟩ := cell_has (n := s.heap.objs.size + 1) k
      refine .inr ⟨.inl k, c, e, ?_⟩
      have q := x.cell y c e
      rw [bindC_get ndP hp hu (by show scope.names.lookup y ≠ _; rw [k]; decide)] at q
      exact q
  · exact e0.hok.fresh (Nat.le_of_lt (x.above y c (PySem.mem_of_lookup h)))
  · unfold start
    show _ = N.length
    rw [List.length_append, List.length_map, List.length_replicate]
    omega

/-- THE RULE: a def (or a method) of the text, by its body. The body's reading t is chosen for each entry; it is run at the parameters' values -/
theorem fn_of {CX : CXT} {P : Program} {w : World} {K : PySem.W.Frag} {mg : Str → Option Value} {base : Heap} {k : Nat} {f : Addr} {name qual : Str} {params : Arguments} {body : List Stmt} {scope : Scope} {dV kV doc pm cdv ct oc : Value} {an od : Option Addr}
    {osl : Array (Option Value)} {N ps : List Str} {sp : Sp} (lk : K.lookup f = some ⟨oc, od, .func (PySem.W.fnOf name qual params body scope dV kV doc pm an cdv ct), osl⟩) (hcd : PySem.W.codeIn K cdv qual = true) (S : FnScope N ps scope)
    (len : ∀ vs H Q E, sp vs H Q E → vs.length = ps.length)
    (hbody : ∀ (A : Around) (outer : List Env) (s : Shared) (H : Hp) (vs : List V) (Q : VK) (E : XK), Room k (A.deeper (envOfC qual scope s.heap.objs.size f cdv)) → sp vs H Q E →
      ∃ t, PSs (cxOf CX P w K mg base N qual scope f cdv A outer s H E) body t ∧ t { nx := fun _ H' => Q .non H', rt := Q } (start N vs) H) :
    FnOk P w K mg base CX (k + 1) f (PySem.W.fnOf name qual params body scope dV kV doc pm an cdv ct) ps sp := by
  refine ⟨len, fun A outer s H args us vs Q E hr e0 hb r hsp => ?_⟩
  have hl := len _ _ _ _ hsp
  have KX : K.In s.heap := e0.mod.kin.keeps fun b o e => (e0.bs b o e).1
  have lim : s.heap.NoLimit := e0.mod.nolimit.keeps fun b o e => (e0.bs b o e).1
  have hkind : ∀ y ∈ ps.zip us, scope.names.lookup y.1 = some .local ∨ (scope.names.lookup y.1 = some .cell ∧ ((cellsFrom (s.heap.objs.size + 1) scope.names []).lookup y.1).isSome = true) := fun ⟨n, v⟩ hy => by
    rcases S.par n (List.of_mem_zip hy).1 with q | q
    · exact .inl q
    · exact .inr ⟨q, PySem.W.cellsFrom_some _ _ _ (.inl q)⟩
  refine codeAny_call_function hr.depth (KX _ _ lk) rfl S.co S.gen rfl (PySem.W.codeRec_of KX hcd) (hb _ _ _ _ ?_)
  refine wpAny_newFunctionEnv_cells S.kind hkind fun env he s1 x => ?_
  subst he
  refine ⟨lim.keeps x.toInCall.keep, codeAny_func ?_⟩
  obtain ⟨t, ht, hq⟩ := hbody A outer s H vs Q E (hr.deeper _) hsp
  have I : Inv (cxOf CX P w K mg base N qual scope f cdv A outer s H E) [] (start N vs) H s1 := inv_start S hr.hd e0 hl r x
  refine wpAny_mono (ht [] s1 (start N vs) H _ I hq) (fun fl s' hs => ?_) fun e s' hs => hs
  have fin : ∀ {σ' : St} {H' : Hp} {v : V} {u : Value}, Inv (cxOf CX P w K mg base N qual scope f cdv A outer s H E) [] σ' H' s' → RelV v u → Q v H' → CE outer P w H s Q u s' :=
    fun {σ' H' v u} J rv q => ⟨v, H', J.os, J.bare, J.base, J.hok, rv, q⟩
  cases fl with
  | ret u =>
    obtain ⟨v, σ', H', J, rv, q⟩ := hs
    exact fin J rv q
  | next =>
    obtain ⟨σ', H', J, q⟩ := hs
    exact fin (v := V.non) (u := Value.none) J rfl q
  | brk =>
    obtain ⟨_, _, _, q⟩ := hs
    exact False.elim q
  | cont =>
    obtain ⟨_, _, _, q⟩ := hs
    exact False.elim q
end L2

namespace L2
open PySem PySem.Spec PyProof.Rows
section
variable {X : Cx} {x : Str} {p pos : Pos} {e : Expr} {es : List Expr} {t : TA} {id T : String} {r : List V → Hp → VK → Prop}

def tCB (r : List V → Hp → VK → Prop) (t : TA) : TE := fun σ H Q => t σ H fun vs H1 => r vs H1 Q
/-- f(e, ..), f a built-in function -/
theorem pe_callB (hc : CallR X (.builtin id) r) (hg : Gl X x) (hm : X.mg x = none) (hv : bootBuiltins x = some (.builtin id)) (ha : PA X (e :: es) t) (hn : x ≠ "__name__" := by decide) (hdb : (x == ("__debug__" : Str)) = false := by decide)
    (he : starEach (e :: es) X.env = (false, eval e X.env) :: starEach es X.env := by rfl) (hpl : (backTo pos (starEach es X.env)).any (·.1) = false := by rfl) : PE X (.Call (.Name x p) (e :: es) [] pos) (tCB r t) := by
  intro pins s σ H Q I h
  refine wpAny_Call_Name_kw (ld_blt I hg hm hv ?_ hn hdb)
  exact PyProof.Rows.callWith_builtin1 (thn (ha pos pins s σ H _ I h) fun us s1 ⟨vs, H1, I1, r1, q1⟩ => hc pins s1 σ H1 vs us Q I1 r1 q1) he hpl
/-- T(e, ..), T a built-in type -/
theorem pe_callTy (hc : CallR X (.type T) r) (hg : Gl X x) (hm : X.mg x = none) (hv : bootBuiltins x = some (.type T)) (ha : PA X (e :: es) t) (hn : x ≠ "__name__" := by decide) (hdb : (x == ("__debug__" : Str)) = false := by decide)
    (he : starEach (e :: es) X.env = (false, eval e X.env) :: starEach es X.env := by rfl) (hpl : (backTo pos (starEach es X.env)).any (·.1) = false := by rfl) : PE X (.Call (.Name x p) (e :: es) [] pos) (tCB r t) := by
  intro pins s σ H Q I h
  refine wpAny_Call_Name_kw (ld_blt I hg hm hv ?_ hn hdb)
  exact PyProof.Rows.callWith_type1 (thn (ha pos pins s σ H _ I h) fun us s1 ⟨vs, H1, I1, r1, q1⟩ => hc pins s1 σ H1 vs us Q I1 r1 q1) he hpl
end
end L2

namespace HT
open PySem PyProof.Rows



section
open PySem.SeqAt
open PySem.AutoSeq1 (wpAny_loadPart')
open PySem.MeetsSeq PySem.MeetsSeq2 PySem.MeetsSeq3

end

section
variable {prog : Program} {w : World} {A : Around} {E : Value → Shared → Prop} {s : Shared}



/-! ### t[a:b], not the whole -/
/-- a slice's bound as a place among n (d where it is left out) -/
def sIx (n d : Nat) : Option Int → Nat
  | none => d
  | some v => if v < 0 then (v + (n : Int)).toNat else min v.toNat n
theorem sIx_le (n d : Nat) (hd : d ≤ n) (o : Option Int) : sIx n d o ≤ n := by
  cases o with
  | none => exact hd
  | some v =>
    show (if v < 0 then (v + (n : Int)).toNat else min v.toNat n) ≤ n
    by_cases hv : v < 0
    · rw [if_pos hv]; omega
    · rw [if_neg hv]; exact Nat.min_le_right _ _
theorem clip_eq (v : Int) (n d : Nat) : (if v < 0 then max (v + (n : Int)) 0 else min v (n : Int)) = ((sIx n d (some v) : Nat) : Int) := by
  show (if v < 0 then max (v + (n : Int)) 0 else min v (n : Int)) = (((if v < 0 then (v + (n : Int)).toNat else min v.toNat n) : Nat) : Int)
  by_cases hv : v < 0
  · simp only [if_pos hv]; omega
  · simp only [if_neg hv]; omega
theorem adjust_gen (lo hi : Option Int) (n : Nat) : Builtin.Slice.sliceAdjust lo hi 1 (n : Int) = (((sIx n 0 lo : Nat) : Int), ((sIx n n hi : Nat) : Int)) := by
  have h1 : ¬ ((1 : Int) < 0) := by omega
  unfold Builtin.Slice.sliceAdjust
  simp only [h1, if_false]
  refine Prod.ext ?_ ?_
  · cases lo with
    | none => rfl
    | some v => exact clip_eq v n 0
  · cases hi with
    | none => rfl
    | some v => exact clip_eq v n n
theorem places_gen (i j : Nat) : Builtin.Slice.slicePlaces (i : Int) (j : Int) 1 = j - i := by
  unfold Builtin.Slice.slicePlaces
  have h1 : (1 : Int) > 0 := by omega
  simp only [h1, if_true, Int.ediv_one]
  split <;> omega
theorem slicePart_ {v : Value} {o : Option Int} {Q : Option Int → Shared → Prop} (p : IsPart v o) (h : Q o s) : wpAny (model prog w) A (Builtin.Slice.slicePartIndex v) Q E s := by
  cases p with
  | none => exact slicePart_none h
  | int i t => exact slicePart_int h
theorem sliceApplied_gen {sl : Addr} {vl vu : Value} {lo hi : Option Int} {n : Nat} {Q : Int × Int × Nat → Shared → Prop} (hs : s.heap.IsSliceOf sl vl vu .none) (pl : IsPart vl lo) (pu : IsPart vu hi)
    (h : Q (((sIx n 0 lo : Nat) : Int), 1, sIx n n hi - sIx n 0 lo) s) : wpAny (model prog w) A (Builtin.Slice.sliceApplied (.ref sl) (pure (n : Int))) Q E s := by
  obtain ⟨os, hos, hcs, hds⟩ := id hs
  unfold Builtin.Slice.sliceApplied Builtin.Slice.sliceFields
  refine wpAny_bind (wpAny_bind (wpAny_field hos hds (x := vl) rfl (wpAny_bind (wpAny_field hos hds (x := vu) rfl (wpAny_bind (wpAny_field hos hds (x := .none) rfl (wpAny_pure ?_)))))))
  refine wpAny_bind (slicePart_none ?_)
  show wpAny _ _ (if ((1 : Int) == 0) = true then _ else _) _ _ s
  rw [if_neg (by decide)]
  refine wpAny_bind (slicePart_ pl (wpAny_bind (slicePart_ pu (wpAny_bind (wpAny_pure ?_)))))
  show wpAny _ _ (match Builtin.Slice.sliceAdjust lo hi 1 (n : Int) with | (lo, hi) => pure (lo, (1 : Int), Builtin.Slice.slicePlaces lo hi 1)) _ _ s
  rw [adjust_gen lo hi n]
  show wpAny _ _ (pure (((sIx n 0 lo : Nat) : Int), (1 : Int), Builtin.Slice.slicePlaces ((sIx n 0 lo : Nat) : Int) ((sIx n n hi : Nat) : Int) 1)) _ _ s
  rw [places_gen]
  exact wpAny_pure h
theorem pick_gen (xs : Array Value) (i k : Nat) : ((List.range k).filterMap fun (m : Nat) => xs[((i : Int) + (m : Int) * 1).toNat]?).toArray = ((xs.toList.drop i).take k).toArray := by
  have e : (fun (m : Nat) => xs[((i : Int) + (m : Int) * 1).toNat]?) = fun m => xs[i + m]? := by
    funext m
    have : ((i : Int) + (m : Int) * 1).toNat = i + m := by omega
    rw [this]
  rw [e]
  have := pick_run xs i k
  rw [List.filterMap_map] at this
  have e2 : ((fun x => xs[x]?) ∘ fun x => i + x) = fun m => xs[i + m]? := rfl
  rw [e2] at this
  rw [this]

theorem getItem_tuple_cut {t sl : Addr} {items : Array Value} {vl vu : Value} {lo hi : Option Int} {Q : Value → Shared → Prop} (ht : IsTup s.heap t items) (hs : s.heap.IsSliceOf sl vl vu .none) (pl : IsPart vl lo) (pu : IsPart vu hi)
    (hw : ¬ (sIx items.size 0 lo = 0 ∧ sIx items.size items.size hi = items.size))
    (h : Q (.ref s.heap.objs.size) { s with heap := s.heap.push { cls := .type "tuple", data := .seq ((items.toList.drop (sIx items.size 0 lo)).take (sIx items.size items.size hi - sIx items.size 0 lo)).toArray } })
    (hsz : items.size ≤ sizeLine) : wpAny (model prog w) A (getItem (.ref t) (.ref sl)) Q E s := by
  have htake : sizeOk (.seq ((items.toList.drop (sIx items.size 0 lo)).take (sIx items.size items.size hi - sIx items.size 0 lo)).toArray) := by
    show ((items.toList.drop (sIx items.size 0 lo)).take (sIx items.size items.size hi - sIx items.size 0 lo)).toArray.size ≤ sizeLine
    rw [List.size_toArray, List.length_take, List.length_drop, Array.length_toList]
    omega
  have hj : sIx items.size items.size hi ≤ items.size := sIx_le _ _ (Nat.le_refl _) hi
  obtain ⟨os, hos, hcs, hds⟩ := id hs
  have hTs : s.TypeIs (.ref sl) "slice" := ⟨os, hos, hcs⟩
  unfold getItem
  try with_reducible refine wpAny_holding ?_
  first | refine wpAny_bind (wpAny_pure ?_) | skip
  refine wpAny_bind (wpAny_sequenceKey ht.typeIs (by decide) ?_)
  refine wpAny_bind (wpAny_callSpecial?_slot (name := Str.ofString "__getitem__") ht.typeIs PyProof.Rows.slot_tuple_getitem
    (wpAny_call_entry PyProof.Rows.slot_tuple_getitem ht.typeIs entry_tuple_getitem ?_ (args_tuple_getitem _ _)))
  show wpAny _ _ (Builtin.Tuple.tupleItemsOf (.ref t) >>= _) _ _ s
  refine wpAny_bind (tupleItemsOf_ ht ?_)
  refine wpAny_bind (wpAny_typeOf hTs ?_)
  rw [if_pos (by decide)]
  refine wpAny_bind (sliceApplied_gen hs pl pu ?_)
  have hno : ¬ ((((sIx items.size 0 lo : Nat) : Int) == 0 && (1 : Int) == 1 && (sIx items.size items.size hi - sIx items.size 0 lo) == items.size) = true) := by
    intro q
    rw [Bool.and_eq_true, Bool.and_eq_true] at q
    have q1 : ((sIx items.size 0 lo : Nat) : Int) = 0 := eq_of_beq q.1.1
    have q2 : sIx items.size items.size hi - sIx items.size 0 lo = items.size := eq_of_beq q.2
    exact hw ⟨by omega, by omega⟩
  show wpAny _ _ (if (((sIx items.size 0 lo : Nat) : Int) == 0 && (1 : Int) == 1 && (sIx items.size items.size hi - sIx items.size 0 lo) == items.size) = true then _ else _) _ _ s
  rw [if_neg hno, pick_gen]
  first
    | exact wpAny_bind (m := Builtin.Tuple.tupleExact _) (wpAny_newObj_type (wpAny_pure ⟨_, rfl, wpAny_pure h⟩) htake)
    | exact wpAny_bind (m := Builtin.Tuple.tupleExact _) (wpAny_newObj_type (wpAny_bind (wpAny_pure (wpAny_pure ⟨_, rfl, wpAny_pure h⟩))) htake)
    | exact wpAny_bind (wpAny_bind (m := Builtin.Tuple.tupleExact _) (wpAny_newObj_type (wpAny_pure (wpAny_pure ⟨_, rfl, wpAny_pure h⟩)) htake))
    | exact wpAny_bind (wpAny_bind (m := Builtin.Tuple.tupleExact _) (wpAny_newObj_type (wpAny_pure ⟨_, rfl, wpAny_pure h⟩) htake))
end
end HT

namespace L2
open PySem PySem.Spec PyProof.Rows

/-! ### the parts of a slice -/
abbrev TO := St → Hp → (Option Int → Hp → Prop) → Prop
/-- a slice's part (left out, or an int) -/
def PO (X : Cx) (e : Option Expr) (t : TO) : Prop :=
  ∀ (pins : List (Addr × Obj)) (s : Shared) (σ : St) (H : Hp) (Q : Option Int → Hp → Prop), Inv X pins σ H s → t σ H Q →
    wpAny (model X.prog X.w) X.A (evalPart e X.env) (fun u s' => ∃ o H', Inv X pins σ H' s' ∧ IsPart u o ∧ Q o H') X.xe s
def tNoPart : TO := fun _ H Q => Q none H
def tPart (t : TE) : TO := fun σ H Q => t σ H fun x H1 => ∃ i, x = .int i ∧ Q (some i) H1


section
variable {X : Cx} {e : Expr} {te : TE} {lo hi : Option Expr} {tl th : TO} {pos p2 : Pos}

theorem po_none : PO X none tNoPart := by
  intro pins s σ H Q I h
  rw [evalPart_none]
  exact wpAny_pure ⟨none, H, I, .none, h⟩
theorem po_some (h : PE X e te) : PO X (some e) (tPart te) := by
  intro pins s σ H Q I hw
  rw [evalPart_some]
  refine thn (h pins s σ H _ I hw) fun u s1 ⟨x, H1, I1, r1, q1⟩ => ?_
  obtain ⟨i, rfl, q⟩ := q1
  obtain ⟨t, rfl⟩ := r1
  exact ⟨some i, H1, I1, .int i t, q⟩

/-- what a slice of a value is, by values: the slice object stands at sl -/
def SlR (X : Cx) (r : V → Option Int → Option Int → Hp → VK → Prop) : Prop :=
  ∀ (pins : List (Addr × Obj)) (s : Shared) (σ : St) (H : Hp) (x : V) (v vl vu : Value) (lo hi : Option Int) (sl : Addr) (Q : VK), Inv X pins σ H s → RelV x v → s.heap.IsSliceOf sl vl vu .none → IsPart vl lo → IsPart vu hi → r x lo hi H Q →
    ∃ T id, typeLookup (.type T) "__getitem__" = pure (some (.builtin id)) ∧ s.TypeIs v T ∧ wpAny (model X.prog X.w) X.A (getItem v (.ref sl)) (EP X pins σ Q) X.xe s
def tSl (r : V → Option Int → Option Int → Hp → VK → Prop) (te : TE) (tl th : TO) : TE := fun σ H Q => te σ H fun x H1 => tl σ H1 fun l H2 => th σ H2 fun u H3 => r x l u H3 Q
/-- a[lo:hi], any a -/
theorem pe_slice {r : V → Option Int → Option Int → Hp → VK → Prop} (hr : SlR X r) (he : PE X e te) (hl : PO X lo tl) (hu : PO X hi th) : PE X (.Subscript e (.Slice lo hi none p2) pos) (tSl r te tl th) := by
  intro pins s σ H Q I h
  refine Subscript_ (thn (he pins s σ H _ I h) fun v s1 ⟨x, H1, I1, r1, q1⟩ => ?_)
  refine wpAny_Slice (thn (hl pins s1 σ H1 _ I1 q1) fun vl s2 ⟨l, H2, I2, pl, q2⟩ => thn (hu pins s2 σ H2 _ I2 q2) fun vu s3 ⟨u, H3, I3, pu, q3⟩ => ?_)
  rw [evalPart_none]
  refine wpAny_pure ?_
  have I4 : Inv X pins σ H3 { s3 with heap := s3.heap.push { cls := .type "slice", data := .fields #[vl, vu, .none] } } := I3.kept (t' := s3.toks) fun b ob q => Heap.get?_push_of_some _ q
  obtain ⟨T, id, hT, ht, hg⟩ := hr pins { s3 with heap := s3.heap.push { cls := .type "slice", data := .fields #[vl, vu, .none] } } σ H3 x v vl vu l u s3.heap.objs.size Q I4 r1 (Heap.IsSliceOf.new ..) pl pu q3
  show wpAny (model X.prog X.w) X.A (subscriptTail e (.Slice lo hi none p2) v (.ref s3.heap.objs.size)) (EP X pins σ Q) X.xe { s3 with heap := s3.heap.push { cls := .type "slice", data := .fields #[vl, vu, .none] } }
  exact tail_any (ops := [.ref s3.heap.objs.size, v]) ht hT hg (by with_unfolding_all rfl)

/-- the items of xs[lo:hi] -/
def cutV (xs : List V) (lo hi : Option Int) : List V := (xs.drop (HT.sIx xs.length 0 lo)).take (HT.sIx xs.length xs.length hi - HT.sIx xs.length 0 lo)
theorem cutV_length (xs : List V) (lo hi : Option Int) : (cutV xs lo hi).length ≤ xs.length := by
  unfold cutV
  rw [List.length_take, List.length_drop]
  omega
/-- t[lo:hi], not the whole of it (the whole would be t itself) -/
def rSlT (K : PySem.W.Frag) : V → Option Int → Option Int → Hp → VK → Prop := fun x lo hi H Q => ∃ a xs, x = .ref a ∧ SqT K H a xs ∧
  ¬ (HT.sIx xs.length 0 lo = 0 ∧ HT.sIx xs.length xs.length hi = xs.length) ∧ ∀ p, H p = none → Q (.ref p) (upd H p (.tup (cutV xs lo hi)))
theorem sl_tup : SlR X (rSlT X.K) := by
  intro pins s σ H x v vl vu lo hi sl Q I rx hs pl pu h
  obtain ⟨a, xs, rfl, hx, hw, q⟩ := h
  cases rx
  obtain ⟨its, r, ht, hz⟩ := I.tuple hx
  have hlen : its.toArray.size = xs.length := by rw [List.size_toArray]; exact r.length.symm
  refine ⟨"tuple", _, PyProof.Rows.slot_tuple_getitem.lookup, ht.typeIs, ?_⟩
  refine HT.getItem_tuple_cut ht hs pl pu (by rw [hlen]; exact hw) ?_ (by rw [hlen]; exact hz)
  rw [hlen]
  refine ⟨.ref s.heap.objs.size, _, I.laid (t' := s.toks) (o := .tup (cutV xs lo hi)) (fun b ob q => Heap.get?_push_of_some _ q) (Nat.le_refl _) ?_, rfl, q _ (I.hok.fresh (Nat.le_refl _))⟩
  exact ⟨Nat.le_trans (cutV_length xs lo hi) hz, _, (r.drop (HT.sIx xs.length 0 lo)).take (HT.sIx xs.length xs.length hi - HT.sIx xs.length 0 lo), IsTup.new _ _⟩

/-! ### t < u, t + u -/
end
end L2

namespace L2
open PySem PySem.Spec PyProof.Rows

/-! ### places -/
/-- the place that an index of any sign means -/
def ixN (n : Nat) (i : Int) : Option Nat := if 0 ≤ i then (if i < n then some i.toNat else none) else if -(n : Int) ≤ i then some (i + n).toNat else none
def atI {α : Type} (xs : List α) (i : Int) : Option α := (ixN xs.length i).bind fun j => xs[j]?
theorem ixN_seq {n : Nat} {i : Int} {j : Nat} (h : ixN n i = some j) : seqIndex? i n = some j ∧ j < n ∧ -(n : Int) ≤ i ∧ i < n := by
  unfold ixN at h
  by_cases h0 : 0 ≤ i
  · rw [if_pos h0] at h
    by_cases h1 : i < n
    · rw [if_pos h1] at h
      have e : i.toNat = j := Option.some.inj h
      exact ⟨by rw [seqIndex_of h0 h1, e], by omega, by omega, h1⟩
    · rw [if_neg h1] at h; cases h
  · rw [if_neg h0] at h
    by_cases h1 : -(n : Int) ≤ i
    · rw [if_pos h1] at h
      have e : (i + n).toNat = j := Option.some.inj h
      exact ⟨by rw [seqIndex_neg (by omega) h1, e], by omega, h1, by omega⟩
    · rw [if_neg h1] at h; cases h
theorem atI_get {α : Type} {xs : List α} {i : Int} {v : α} (h : atI xs i = some v) : ∃ j, seqIndex? i xs.length = some j ∧ xs[j]? = some v ∧ j < xs.length ∧ -(xs.length : Int) ≤ i ∧ i < xs.length := by
  unfold atI at h
  cases e : ixN xs.length i with
  | none => rw [e] at h; cases h
  | some j =>
    rw [e] at h
    obtain ⟨h1, h2, h3, h4⟩ := ixN_seq e
    exact ⟨j, h1, h, h2, h3, h4⟩
theorem atI_nat {α : Type} {xs : List α} {j : Nat} {v : α} (h : xs[j]? = some v) : atI xs (j : Int) = some v := by
  have hj : j < xs.length := (List.getElem?_eq_some_iff.mp h).1
  have e : ixN xs.length (j : Int) = some j := by
    unfold ixN
    rw [if_pos (by omega), if_pos (by omega)]; simp
  unfold atI; rw [e]; exact h

/-! ### what may be subscripted -/
/-- what stands as an index of a plain subscript -/
def PlainIx (b : Expr) : Prop := ∀ o i, subscripted b false o i = operate [o, i] (getItem o i)
/-- a subscript by values -/
def IxR (X : Cx) (r : R2) : Prop :=
  ∀ (value slice : Expr) (pins : List (Addr × Obj)) (s : Shared) (σ : St) (H : Hp) (x y : V) (v u : Value) (Q : VK), Inv X pins σ H s → RelV x v → RelV y u → r x y H Q →
    subscripted slice false v u = operate [v, u] (getItem v u) → wpAny (model X.prog X.w) X.A (subscriptTail value slice v u) (EP X pins σ Q) X.xe s
/-- a call of a builtin's method by values: the receiver, the arguments -/
def MtR (X : Cx) (id : String) (r : V → List V → Hp → VK → Prop) : Prop :=
  ∀ (pins : List (Addr × Obj)) (s : Shared) (σ : St) (H : Hp) (x : V) (xs : List V) (v : Value) (us : List Value) (Q : VK), Inv X pins σ H s → RelV x v → Vals xs us → r x xs H Q →
    wpAny (model X.prog X.w) X.A (call (.builtin id) (v :: us)) (EP X pins σ Q) X.xe s
section
variable {X : Cx} {a b : Expr} {ta tb : TE} {pos : Pos}
/-- a[b] -/
theorem pe_ix {r : R2} (hr : IxR X r) (ha : PE X a ta) (hb : PE X b tb) (hs : PlainIx b) : PE X (.Subscript a b pos) (tOp r ta tb) := by
  intro pins s σ H Q I h
  exact Subscript_ (binT ha hb I h fun v u s2 x y H2 I2 rx ry q => hr a b pins s2 σ H2 x y v u Q I2 rx ry q (hs _ _))

def rIxL (K : PySem.W.Frag) : R2 := fun x y H Q => ∃ p xs i v, x = .ref p ∧ y = .int i ∧ SqL K H p xs ∧ atI xs i = some v ∧ Q v H
def rIxT (K : PySem.W.Frag) : R2 := fun x y H Q => ∃ p xs i v, x = .ref p ∧ y = .int i ∧ SqT K H p xs ∧ atI xs i = some v ∧ Q v H
def rIxS : R2 := fun x y H Q => ∃ z i c, x = .str z ∧ y = .int i ∧ z.length ≤ sizeLine ∧ atI z.cps.toList i = some c ∧ Q (.str ⟨#[c]⟩) H
theorem ix_list : IxR X (rIxL X.K) := by
  intro value slice pins s σ H x y v u Q I rx ry h hs
  obtain ⟨p, xs, i, z, rfl, rfl, hq, he, q⟩ := h
  cases rx
  obtain ⟨t, rfl⟩ := ry
  obtain ⟨its, r, pl, hz⟩ := I.list hq
  obtain ⟨j, h1, h2, h3, h4, h5⟩ := atI_get he
  obtain ⟨w, ew, rw'⟩ := r.get h2
  have hl := r.length
  have hn := line63
  have fin : EP X pins σ Q w s := ⟨z, H, I, rw', q⟩
  by_cases h0 : 0 ≤ i
  · have hj : i.toNat = j := by
      rw [seqIndex_of h0 h5] at h1
      exact Option.some.inj h1
    exact item_listR pl.isList h0 (by omega) (by rw [hj]; simpa using ew) fin hs
  · have hj : (i + (its.toArray.size : Int)).toNat = j := by
      rw [seqIndex_neg (by omega) h4] at h1
      rw [List.size_toArray, ← hl]
      exact Option.some.inj h1
    exact subscriptTail_builtinR (x := w) pl.isList.typeIs slot_list_getitem.lookup
      (wpAny_getItem_list_neg (Q := fun r s' => r = w ∧ EP X pins σ Q r s') pl.isList (by omega) (by rw [List.size_toArray] <;> omega) (by omega) (by rw [hj]; simpa using ew) ⟨rfl, fin⟩) hs
theorem ix_tup : IxR X (rIxT X.K) := by
  intro value slice pins s σ H x y v u Q I rx ry h hs
  obtain ⟨p, xs, i, z, rfl, rfl, hq, he, q⟩ := h
  cases rx
  obtain ⟨t, rfl⟩ := ry
  obtain ⟨its, r, pl, hz⟩ := I.tuple hq
  obtain ⟨j, h1, h2, h3, h4, h5⟩ := atI_get he
  obtain ⟨w, ew, rw'⟩ := r.get h2
  have hl := r.length
  have hn := line63
  have fin : EP X pins σ Q w s := ⟨z, H, I, rw', q⟩
  exact subscriptTail_builtinR (x := w) pl.typeIs slot_tuple_getitem.lookup
    (getItem_tuple (j := j) (Q := fun r s' => r = w ∧ EP X pins σ Q r s') pl (by omega) (by omega) (by rw [List.size_toArray, ← hl]; exact h1) (by simpa using ew) ⟨rfl, fin⟩) hs
theorem ix_str : IxR X rIxS := by
  intro value slice pins s σ H x y v u Q I rx ry h hs
  obtain ⟨z, i, c, rfl, rfl, hz, he, q⟩ := h
  obtain ⟨t, rfl⟩ := rx
  obtain ⟨t', rfl⟩ := ry
  obtain ⟨j, h1, h2, h3, h4, h5⟩ := atI_get he
  have hl : z.cps.toList.length = z.length := by simp [Str.length]
  rw [hl] at h1 h4 h5
  have hn := line63
  exact tail_any (typeIs_str s z t) slot_str_getitem.lookup (getItem_str (c := c) (by
    have e1 : decide (i < -(2 ^ 63 : Int)) = false := decide_eq_false (by omega)
    have e2 : decide (i ≥ 2 ^ 63) = false := decide_eq_false (by omega)
    rw [e1, e2, Bool.or_false]) (by rw [h1]; simpa using h2) ⟨.str ⟨#[c]⟩, H, I.tok _, ⟨_, rfl⟩, q⟩) hs

/-! ### xs[i] = v, any sign -/
/-- the list's object behind a store -/
theorem mapSeq_set (its : List Value) (n j : Nat) (u : Value) : Obj.mapSeq (·.setIfInBounds j u) { cls := .type "list", data := .seq its.toArray n } = { cls := .type "list", data := .seq (its.set j u).toArray n } := by
  simp [Obj.mapSeq]
theorem Inv.lst {pins : List (Addr × Obj)} {σ : St} {H : Hp} {s : Shared} {p : Addr} {xs : List V} (I : Inv X pins σ H s) (h : H p = some (.lst xs)) :
    ∃ (its : List Value) (n : Nat), Vals xs its ∧ s.heap.get? p = some { cls := .type "list", data := .seq its.toArray n } ∧ xs.length ≤ sizeLine := by
  obtain ⟨z, its, n, r, e⟩ := I.hok p _ h
  exact ⟨its, n, r, e, z⟩
/-- the list at p is written by an update of its object -/
theorem Inv.lstUpd {pins : List (Addr × Obj)} {σ : St} {H : Hp} {s : Shared} {p : Addr} {xs ys : List V} {its its' : List Value} {n n' : Nat} {f : Obj → Obj} (I : Inv X pins σ H s) (h : H p = some (.lst xs))
    (ho : s.heap.get? p = some { cls := .type "list", data := .seq its.toArray n }) (hf : f { cls := .type "list", data := .seq its.toArray n } = { cls := .type "list", data := .seq its'.toArray n' }) (r : Vals ys its') (hz : ys.length ≤ sizeLine) (t : Nat) :
    Inv X pins σ (upd H p (.lst ys)) { s with heap := s.heap.update p f, toks := t } := by
  have e : (s.heap.update p f).get? p = some { cls := .type "list", data := .seq its'.toArray n' } := by
    rw [Heap.get?_update_self f ho (by rw [hf] <;> rfl), hf]
  refine I.write (x := p) (e := p) (by rw [h]; trivial) (.inl rfl) (fun b u hb q => (Heap.get?_update_other _ _ (Ne.symm hb)).trans q) ⟨_, e⟩ ?_
  exact ⟨hz, its', n', r, e⟩
def rSetL : V → V → V → Hp → (Hp → Prop) → Prop := fun o i v H Q => ∃ p xs k j, o = .ref p ∧ i = .int k ∧ H p = some (.lst xs) ∧ ixN xs.length k = some j ∧ Q (upd H p (.lst (xs.set j v)))
theorem set_list : PSet X rSetL := by
  intro pins s σ H o i v ov iv u Q I ro ri rv h
  obtain ⟨p, xs, k, j, rfl, rfl, hp, hj, q⟩ := h
  cases ro
  obtain ⟨t, rfl⟩ := ri
  obtain ⟨its, n, r, ho, hz⟩ := I.lst hp
  obtain ⟨h1, h2, h3, h4⟩ := ixN_seq hj
  have hl := r.length
  have hn := line63
  have I' : Inv X pins σ (upd H p (.lst (xs.set j v))) { s with heap := s.heap.update p (Obj.mapSeq (·.setIfInBounds j u)) } :=
    I.lstUpd hp ho (mapSeq_set its n j u) (r.set rv j) (by rw [List.length_set]; exact hz) s.toks
  by_cases h0 : 0 ≤ k
  · have hk : k.toNat = j := by
      rw [seqIndex_of h0 h4] at h1
      exact Option.some.inj h1
    exact PySem.W.ki_setAt ho h0 (by omega) (by rw [List.size_toArray, ← hl]; exact h4) (by rw [hk]; exact ⟨_, I', q⟩)
  · have hk : (k + (its.toArray.size : Int)).toNat = j := by
      rw [seqIndex_neg (by omega) h3] at h1
      rw [List.size_toArray, ← hl]
      exact Option.some.inj h1
    exact PySem.W.ki_setBack ho (by omega) (by rw [List.size_toArray, ← hl]; exact h3) (by omega) (by rw [hk]; exact ⟨_, I', q⟩)

/-! ### slices -/
theorem slice_bounds (lo hi : Option Int) (n : Nat) : (sliceBounds lo hi none n).1 = ((HT.sIx n 0 lo : Nat) : Int) ∧ (sliceBounds lo hi none n).2.1 = ((HT.sIx n n hi : Nat) : Int) ∧ (sliceBounds lo hi none n).2.2 = 1 := by
  refine ⟨?_, ?_, rfl⟩
  · cases lo with
    | none => simp [sliceBounds, HT.sIx]
    | some i =>
      simp only [sliceBounds, HT.sIx, Option.getD_none, show (1 : Int) > 0 by decide, if_true]
      by_cases h : i < 0
      · simp only [h, if_true] <;> omega
      · simp only [h, if_false] <;> omega
  · cases hi with
    | none => simp [sliceBounds, HT.sIx]
    | some i =>
      simp only [sliceBounds, HT.sIx, Option.getD_none, show (1 : Int) > 0 by decide, if_true]
      by_cases h : i < 0
      · simp only [h, if_true] <;> omega
      · simp only [h, if_false] <;> omega
theorem slicePick_cut (its : List Value) (lo hi : Option Int) : slicePick its.toArray lo hi none = ((its.drop (HT.sIx its.length 0 lo)).take (HT.sIx its.length its.length hi - HT.sIx its.length 0 lo)).toArray := by
  obtain ⟨h1, h2, h3⟩ := slice_bounds lo hi its.toArray.size
  unfold slicePick
  rw [h1, h2, h3]
  simp only [sliceRange_one, pick_run, List.size_toArray] <;> rfl
/-- xs[lo:hi] of a list: a new list -/
def rSlL (K : PySem.W.Frag) : V → Option Int → Option Int → Hp → VK → Prop := fun x lo hi H Q => ∃ a xs, x = .ref a ∧ SqL K H a xs ∧ ∀ p, H p = none → Q (.ref p) (upd H p (.lst (cutV xs lo hi)))
theorem sl_list : SlR X (rSlL X.K) := by
  intro pins s σ H x v vl vu lo hi sl Q I rx hs pl pu h
  obtain ⟨a, xs, rfl, hx, q⟩ := h
  cases rx
  obtain ⟨its, r, ht, hz⟩ := I.list hx
  have hlen := r.length
  refine ⟨"list", _, slot_list_getitem.lookup, ht.isList.typeIs, ?_⟩
  refine wpAny_getItem_list_slice ht.isList hs pl pu .none (by simp) ?_ (by rw [List.size_toArray] <;> omega)
  rw [slicePick_cut, ← hlen]
  refine ⟨.ref s.heap.objs.size, _, I.laid (t' := s.toks) (o := .lst (cutV xs lo hi)) (fun b ob q => Heap.get?_push_of_some _ q) (Nat.le_refl _) ?_, rfl, q _ (I.hok.fresh (Nat.le_refl _))⟩
  exact ⟨Nat.le_trans (cutV_length xs lo hi) hz, _, 0, (r.drop (HT.sIx xs.length 0 lo)).take (HT.sIx xs.length xs.length hi - HT.sIx xs.length 0 lo), Heap.get?_push_size _ rfl⟩

/-! ### in, not in: flat items -/
def flatV : V → Bool
  | .non => true
  | .bl _ => true
  | .int _ => true
  | .str _ => true
  | _ => false
/-- == of flat values -/
def eqV : V → V → Bool
  | .non, .non => true
  | .bl a, .bl b => a == b
  | .bl a, .int b => (if a then 1 else 0) == b
  | .int a, .bl b => a == (if b then 1 else 0)
  | .int a, .int b => a == b
  | .str a, .str b => a == b
  | _, _ => false
theorem eqAt_V {A : Around} {s : Shared} {y x : V} {u v : Value} (ry : RelV y u) (rx : RelV x v) (fy : flatV y = true) (fx : flatV x = true) : SeqAt.EqAt A s u v (eqV y x) := by
  cases y with
  | non =>
    cases ry
    cases x with
    | non => cases rx; exact SeqAt.EqAt.same _
    | bl b => cases rx; exact SeqAt.EqAt.none_bool b
    | int b => obtain ⟨t, rfl⟩ := rx; exact SeqAt.EqAt.none_int b t
    | str b => obtain ⟨t, rfl⟩ := rx; exact SeqAt.EqAt.none_str b t
    | _ => exact absurd (show false = true from fx) Bool.false_ne_true
  | bl a =>
    cases ry
    cases x with
    | non => cases rx; exact SeqAt.EqAt.bool_none a
    | bl b => cases rx; exact SeqAt.EqAt.bool_bool a b
    | int b => obtain ⟨t, rfl⟩ := rx; exact SeqAt.EqAt.bool_int a b t
    | str b => obtain ⟨t, rfl⟩ := rx; exact SeqAt.EqAt.bool_str a b t
    | _ => exact absurd (show false = true from fx) Bool.false_ne_true
  | int a =>
    obtain ⟨t', rfl⟩ := ry
    cases x with
    | non => cases rx; exact SeqAt.EqAt.int_none a t'
    | bl b => cases rx; exact SeqAt.EqAt.int_bool a t' b
    | int b => obtain ⟨t, rfl⟩ := rx; exact SeqAt.EqAt.int_int a t' b t
    | str b => obtain ⟨t, rfl⟩ := rx; exact SeqAt.EqAt.int_str a t' b t
    | _ => exact absurd (show false = true from fx) Bool.false_ne_true
  | str a =>
    obtain ⟨t', rfl⟩ := ry
    cases x with
    | non => cases rx; exact SeqAt.EqAt.str_none a t'
    | bl b => cases rx; exact SeqAt.EqAt.str_bool a t' b
    | int b => obtain ⟨t, rfl⟩ := rx; exact SeqAt.EqAt.str_int a t' b t
    | str b => obtain ⟨t, rfl⟩ := rx; exact SeqAt.EqAt.str_str a t' b t
    | _ => exact absurd (show false = true from fx) Bool.false_ne_true
  | _ => exact absurd (show false = true from fy) Bool.false_ne_true
/-- the items' answers, read off the values (a value's own answer does not lean on its token) -/
def eqU (x : V) (u : Value) : Bool := match u with
  | .none => eqV .non x
  | .bool b => eqV (.bl b) x
  | .int i _ => eqV (.int i) x
  | .str z _ => eqV (.str z) x
  | _ => false
theorem eqU_of {x y : V} {u : Value} (r : RelV y u) (f : flatV y = true) : eqU x u = eqV y x := by
  cases y with
  | non => cases r; rfl
  | bl b => cases r; rfl
  | int i => obtain ⟨t, rfl⟩ := r; rfl
  | str z => obtain ⟨t, rfl⟩ := r; rfl
  | _ => exact absurd (show false = true from f) Bool.false_ne_true
theorem any_eqU {x : V} : ∀ {xs : List V} {us : List Value}, Vals xs us → xs.all flatV = true → us.any (eqU x) = xs.any fun y => eqV y x
  | _, _, .nil, _ => rfl
  | y :: xs, u :: us, .cons r t, f => by
    rw [List.all_cons, Bool.and_eq_true] at f
    rw [List.any_cons, List.any_cons, eqU_of r f.1, any_eqU t f.2]
theorem mem_eqAt {A : Around} {s : Shared} {x : V} {v : Value} (rx : RelV x v) (fx : flatV x = true) : ∀ {xs : List V} {us : List Value}, Vals xs us → xs.all flatV = true → ∀ u ∈ us, SeqAt.EqAt A s u v (eqU x u)
  | _, _, .nil, _ => fun u hu => by cases hu
  | y :: xs, u :: us, .cons r t, f => fun u' hu => by
    rw [List.all_cons, Bool.and_eq_true] at f
    rcases List.mem_cons.mp hu with rfl | hu
    · rw [eqU_of r f.1]; exact eqAt_V r rx f.1 fx
    · exact mem_eqAt rx fx t f.2 u' hu
def inV (x : V) (xs : List V) : Bool := xs.any fun y => eqV y x
/-- x in a list or tuple of flat items -/
def rIn (K : PySem.W.Frag) (neg : Bool) : R2 := fun x y H Q => ∃ p xs, y = .ref p ∧ (SqL K H p xs ∨ SqT K H p xs) ∧ flatV x = true ∧ xs.all flatV = true ∧ Q (.bl (if neg then !inV x xs else inV x xs)) H
theorem op_notIn_seq : OpR X (compareOp .NotIn) (rIn X.K true) := by
  intro pins s σ H x y v u Q I rx ry h
  obtain ⟨p, xs, rfl, hq, fx, fs, q⟩ := h
  cases ry
  rcases hq with hq | hq
  · obtain ⟨its, r, pl, hz⟩ := I.list hq
    refine SeqAt.notIn_listAt (eqU x) pl.isList (fun w hw => mem_eqAt rx fx r fs w (by simpa using hw)) ⟨.bl _, H, I, rfl, ?_⟩
    rw [show its.toArray.any (eqU x) = its.any (eqU x) by simp, any_eqU r fs]
    exact q
  · obtain ⟨its, r, pl, hz⟩ := I.tuple hq
    refine SeqAt.notIn_tupleAt (eqU x) pl (fun w hw => mem_eqAt rx fx r fs w (by simpa using hw)) ⟨.bl _, H, I, rfl, ?_⟩
    rw [show its.toArray.any (eqU x) = its.any (eqU x) by simp, any_eqU r fs]
    exact q
theorem op_notIn_str : OpR X (compareOp .NotIn) (fun x y H Q => ∃ i j, x = .str i ∧ y = .str j ∧ Q (.bl (!(!(Builtin.Str.occurrences j i 0 j.length 1).isEmpty))) H) := by
  intro pins s σ H x y v u Q I rx ry h
  obtain ⟨i, j, rfl, rfl, q⟩ := h
  obtain ⟨t, rfl⟩ := rx
  obtain ⟨t', rfl⟩ := ry
  exact notIn_str ⟨.bl _, H, I, rfl, q⟩

/-! ### len, list(x), tuple(x) of any list or tuple that is read -/
theorem call_len_seq : CallR X (.builtin "len") (fun xs H Q => ∃ p ys, xs = [.ref p] ∧ (SqL X.K H p ys ∨ SqT X.K H p ys) ∧ Q (.int ys.length) H) := by
  intro pins s σ H xs us Q I r h
  obtain ⟨p, ys, rfl, hq, q⟩ := h
  obtain ⟨u, rfl, rx⟩ := vals1 r
  cases rx
  have hn := line63
  rcases hq with hq | hq
  · obtain ⟨its, r', pl, hz⟩ := I.list hq
    have hlen := r'.length
    exact Calls.call_len_list pl.isList (by simp only [List.size_toArray] <;> omega) ⟨.int ys.length, H, I.tok _, ⟨s.toks + 1, by rw [List.size_toArray, hlen]⟩, q⟩
  · obtain ⟨its, r', pl, hz⟩ := I.tuple hq
    have hlen := r'.length
    exact len_tuple pl (by simp only [List.size_toArray] <;> omega) ⟨.int ys.length, H, I.tok _, ⟨s.toks + 1, by rw [List.size_toArray, hlen]⟩, q⟩
theorem call_len_str : CallR X (.builtin "len") (fun xs H Q => ∃ z, xs = [.str z] ∧ z.length ≤ sizeLine ∧ Q (.int z.length) H) := by
  intro pins s σ H xs us Q I r h
  obtain ⟨z, rfl, hz, q⟩ := h
  obtain ⟨u, rfl, t, rfl⟩ := vals1 r
  have hn := line63
  exact len_str (by omega) ⟨.int z.length, H, I.tok _, ⟨_, rfl⟩, q⟩
theorem call_list_of : CallR X (.type "list") (fun xs H Q => ∃ p ys, xs = [.ref p] ∧ (SqL X.K H p ys ∨ SqT X.K H p ys) ∧ ∀ l, H l = none → Q (.ref l) (upd H l (.lst ys))) := by
  intro pins s σ H xs us Q I r h
  obtain ⟨p, ys, rfl, hq, q⟩ := h
  obtain ⟨u, rfl, rx⟩ := vals1 r
  cases rx
  have fin : ∀ (its : List Value), Vals ys its → ys.length ≤ sizeLine → ∀ (h' : Heap) (c' : Nat), (∀ b o', s.heap.get? b = some o' → h'.get? b = some o') →
      h'.get? s.heap.objs.size = some { cls := .type "list", dict := none, data := .seq its.toArray c', slots := #[] } → EP X pins σ Q (.ref s.heap.objs.size) { s with heap := h' } := fun its r' hz h' c' kp e =>
    ⟨.ref s.heap.objs.size, _, I.laid (t' := s.toks) kp (Nat.le_refl _) (show ObjOk X.prog X.w _ h' _ (.lst ys) from ⟨hz, its, c', r', e⟩), rfl, q _ (I.hok.fresh (Nat.le_refl _))⟩
  rcases hq with hq | hq
  · obtain ⟨its, r', pl, hz⟩ := I.list hq
    have hlen := r'.length
    obtain ⟨o, ho, hc, n, hd⟩ := pl.isList
    exact call_list_seq p (.inl rfl) ho hc hd (fun h' c' kp e => fin its r' hz h' c' kp e) (by simp only [List.size_toArray] <;> omega)
  · obtain ⟨its, r', pl, hz⟩ := I.tuple hq
    have hlen := r'.length
    obtain ⟨o, ho, hc, n, hd⟩ := pl
    exact call_list_seq p (.inr rfl) ho hc hd (fun h' c' kp e => fin its r' hz h' c' kp e) (by simp only [List.size_toArray] <;> omega)
theorem call_tuple_of : CallR X (.type "tuple") (fun xs H Q => ∃ p ys, xs = [.ref p] ∧ ((SqL X.K H p ys ∧ ∀ l, H l = none → Q (.ref l) (upd H l (.tup ys))) ∨ (SqT X.K H p ys ∧ Q (.ref p) H))) := by
  intro pins s σ H xs us Q I r h
  obtain ⟨p, ys, rfl, h⟩ := h
  obtain ⟨u, rfl, rx⟩ := vals1 r
  cases rx
  rcases h with ⟨hq, q⟩ | ⟨hq, q⟩
  · obtain ⟨its, r', pl, hz⟩ := I.list hq
    have hlen := r'.length
    refine call_tuple_list pl.isList (fun h' kp => ?_) (by simp only [List.size_toArray] <;> omega)
    have I1 : Inv X pins σ H { s with heap := h' } := I.kept (t' := s.toks) kp
    have I2 : Inv X pins σ (upd H h'.objs.size (.tup ys)) { s with heap := h'.push { cls := .type "tuple", data := .seq its.toArray } } :=
      I1.laid (t' := s.toks) (fun b o e => Heap.get?_push_of_some _ e) (Nat.le_refl _) (show ObjOk X.prog X.w _ _ _ (.tup ys) from ⟨hz, its, r', IsTup.new _ _⟩)
    exact ⟨.ref h'.objs.size, _, I2, rfl, q _ (I1.hok.fresh (Nat.le_refl _))⟩
  · obtain ⟨its, r', pl, hz⟩ := I.tuple hq
    exact call_tuple_same pl ⟨.ref p, H, I, rfl, q⟩

/-! ### the call of a builtin's method: o.m(..) -/
/-- the value is of that builtin type -/
def tyV (K : PySem.W.Frag) (T : String) (x : V) (H : Hp) : Prop := match x with
  | .str _ => T = "str"
  | .int _ => T = "int"
  | .ref p => (T = "list" ∧ ∃ xs, SqL K H p xs) ∨ (T = "tuple" ∧ ∃ o, K.lookup p = some o ∧ o.cls = .type "tuple" ∧ o.dict = none) ∨
      (T = "dict" ∧ ((∃ kvs, H p = some (.dK kvs)) ∨ ∃ kvs, H p = some (.dT kvs))) ∨ (T = "set" ∧ ∃ S n, H p = some (.set S n))
  | _ => False
theorem tyV_is {pins : List (Addr × Obj)} {σ : St} {H : Hp} {s : Shared} {T : String} {x : V} {v : Value} (I : Inv X pins σ H s) (r : RelV x v) (ty : tyV X.K T x H) :
    s.TypeIs v T ∧ ∀ a, v = .ref a → ∃ ob, s.heap.get? a = some ob ∧ ob.dict = none := by
  cases x with
  | str z =>
    obtain ⟨t, rfl⟩ := r
    cases (show T = "str" from ty)
    exact ⟨typeIs_str s z t, fun _ e => nomatch e⟩
  | int i =>
    obtain ⟨t, rfl⟩ := r
    cases (show T = "int" from ty)
    exact ⟨typeIs_int s i t, fun _ e => nomatch e⟩
  | ref p =>
    cases r
    rcases ty with ⟨rfl, xs, hq⟩ | ⟨rfl, o, hk, hc, hd⟩ | ⟨rfl, hk⟩ | ⟨rfl, S, n, hk⟩
    · obtain ⟨its, _, pl, _⟩ := I.list hq
      refine ⟨pl.isList.typeIs, fun a e => ?_⟩
      cases e
      obtain ⟨o, n, e, c, hd, _⟩ := pl
      exact ⟨o, e, hd⟩
    · refine ⟨⟨o, I.kIn p o hk, hc⟩, fun a e => ?_⟩
      cases e
      exact ⟨o, I.kIn _ o hk, hd⟩
    · have z : ∃ o, s.heap.get? p = some o ∧ o.ExactDict := by
        rcases hk with ⟨kvs, hk⟩ | ⟨kvs, hk⟩
        · obtain ⟨_, _, _, _, o, _, _, e, ex, _⟩ := I.hok p _ hk
          exact ⟨o, e, ex⟩
        · obtain ⟨_, _, _, _, o, _, _, e, ex, _⟩ := I.hok p _ hk
          exact ⟨o, e, ex⟩
      obtain ⟨o, e, ex⟩ := z
      refine ⟨⟨o, e, ex.1⟩, fun a e2 => ?_⟩
      cases e2
      exact ⟨o, e, ex.2.1⟩
    · obtain ⟨o, _, _, _, e, ex, _⟩ := I.hok p _ hk
      refine ⟨⟨o, e, ex.1⟩, fun a e2 => ?_⟩
      cases e2
      exact ⟨o, e, ex.2.1⟩
  | _ => exact False.elim ty
def tBM (K : PySem.W.Frag) (T : String) (r : V → List V → Hp → VK → Prop) (to : TE) (t : TA) : TE := fun σ H Q => to σ H fun x H1 => tyV K T x H1 ∧ t σ H1 fun xs H2 => r x xs H2 Q
variable {o e : Expr} {es : List Expr} {to : TE} {t : TA} {name : Str} {apos cpos : Pos} {T id : String} {r : V → List V → Hp → VK → Prop}
theorem pe_bm (pa : PlainAttrs T) (slot : Slot T name id) (hty : typeOf (.builtin id) = pure (.type "method_descriptor")) (hm : MtR X id r) (ho : PE X o to) (ha : PA X (e :: es) t)
    (hbase : attributeBase o name X.env (eval o X.env) = eval o X.env := by rfl)
    (hfew : ((backTo cpos (starEach (e :: es) X.env)).all (fun x => !x.1) && (backToKw cpos (keywordEach [] X.env)).all (fun x => x.1.isSome)
      && decide ((e :: es).length + ([] : List Keyword).length + (if ([] : List Keyword).isEmpty then 0 else 1) < 30)) = true := by rfl)
    (hline : (apos.endLine == cpos.line) = true := by rfl) (hs : starEach (e :: es) X.env = (false, eval e X.env) :: starEach es X.env := by rfl) (hplain : (backTo cpos (starEach es X.env)).any (·.1) = false := by rfl) :
    PE X (.Call (.Attribute o name apos) (e :: es) [] cpos) (tBM X.K T r to t) := by
  intro pins s σ H Q I h
  refine wpAny_Call_method_late hbase hfew hline rfl (thn (ho pins s σ H _ I h) fun v s1 ⟨x, H1, I1, r1, ty, q1⟩ => ?_)
  obtain ⟨h1, h2⟩ := tyV_is I1 r1 ty
  refine ⟨T, id, pa, slot, hty, h1, h2, ?_⟩
  have hA := ha cpos pins s1 σ H1 _ I1 q1
  rw [hs] at hA ⊢
  refine Calls.callWith_builtin (by show (false || (backTo cpos (starEach es X.env)).any (·.1)) = false; rw [hplain] <;> rfl) (Calls.evalArgs_plain ?_)
  exact thn hA fun us s2 ⟨vs, H2, I2, r2, q2⟩ => hm pins s2 σ H2 x vs v us Q I2 r1 r2 q2
/- xs.append(e), list.index on a module's tuple .. are MtR facts of 06m -/
end
end L2

namespace L2
open PySem PySem.Spec PyProof.Rows

def MtM (X : Cx) (id : String) (r : V → List V → Hp → VK → Prop) : Prop :=
  ∀ (pins : List (Addr × Obj)) (s : Shared) (σ : St) (H : Hp) (x : V) (xs : List V) (v : Value) (us : List Value) (Q : VK), Inv X pins σ H s → RelV x v → Vals xs us → r x xs H Q →
    wpAny (model X.prog X.w) X.A (call (.builtin id) (v :: us)) (EP X pins σ Q) X.xe s

/-! ### lists of values -/
theorem Vals.one : ∀ {x : V} {us : List Value}, Vals [x] us → ∃ u, us = [u] ∧ RelV x u
  | _, _, .cons r .nil => ⟨_, rfl, r⟩

section
variable {X : Cx} {pins : List (Addr × Obj)} {σ : St} {H : Hp} {s : Shared} {l b : Addr} {xs ys zs : List V}

/-! ### the two steps: a tracked list is rewritten, a new list is laid -/
theorem Inv.lset {its its' : List Value} {n : Nat} {f : Array Value → Array Value} {t' : Nat} (I : Inv X pins σ H s) (hH : H l = some (.lst xs))
    (e : s.heap.get? l = some { cls := .type "list", data := .seq its.toArray n }) (hf : f its.toArray = its'.toArray) (hv : Vals ys its') (hz : ys.length ≤ sizeLine) :
    Inv X pins σ (upd H l (.lst ys)) { s with heap := s.heap.update l (Obj.mapSeq f), toks := t' } := by
  have q := PySem.IsL.update e f
  rw [hf] at q
  refine I.write (x := l) (e := l) (by rw [hH]; exact trivial) (.inl rfl) (fun b' u hb hu => (Heap.get?_update_other s.heap (Obj.mapSeq f) (Ne.symm hb)).trans hu) ⟨_, q⟩ ?_
  exact ⟨hz, its', _, hv, q⟩
theorem Inv.lnew {its : List Value} {t' : Nat} (I : Inv X pins σ H s) (hv : Vals ys its) (hz : ys.length ≤ sizeLine) :
    Inv X pins σ (upd H s.heap.objs.size (.lst ys)) { s with heap := s.heap.push { cls := .type "list", data := .seq its.toArray }, toks := t' } :=
  I.laid (fun _ _ q => Heap.get?_push_of_some _ q) (Nat.le_refl _) ⟨hz, its, 0, hv, Heap.get?_push_size _ rfl⟩
theorem Inv.fresh (I : Inv X pins σ H s) : H s.heap.objs.size = none := I.hok.fresh (Nat.le_refl _)
theorem Inv.lstM (I : Inv X pins σ H s) (hH : H l = some (.lst xs)) : xs.length ≤ sizeLine ∧ ∃ (its : List Value) (n : Nat), Vals xs its ∧ xs.length = its.length ∧ s.heap.get? l = some { cls := .type "list", data := .seq its.toArray n } := by
  obtain ⟨z, its, n, r, e⟩ := I.hok l _ hH
  exact ⟨z, its, n, r, r.length, e⟩

end

section
variable {X : Cx}

/-! ### methods -/
def rAppend : V → List V → Hp → VK → Prop := fun x vs H Q => ∃ l xs y, x = .ref l ∧ vs = [y] ∧ H l = some (.lst xs) ∧ xs.length < sizeLine ∧ Q .non (upd H l (.lst (xs ++ [y])))
theorem mt_append : MtM X "list.append" rAppend := by
  intro pins s σ H x vs v us Q I rx rv h
  obtain ⟨l, xs, y, rfl, rfl, hH, hz, q⟩ := h
  cases rx
  obtain ⟨u, rfl, ru⟩ := rv.one
  obtain ⟨z, its, n, r, hl, e⟩ := I.lstM hH
  refine call_meets F.slot_list_append ⟨_, e, rfl⟩ F.entry_list_append (F.args_list_append_2 _ _) (PySem.list_append l its.toArray n u (by rw [List.size_toArray]; omega)) ⟨e, ?_⟩
  refine ⟨.non, _, I.lset (its' := its ++ [u]) hH e (by simp) (r.append (.cons ru .nil)) ?_, rfl, q⟩
  rw [List.length_append, List.length_singleton]
  omega






/-! ### list + list, list += list, list * int -/
def rCat : R2 := fun x y H Q => ∃ l b xs zs, x = .ref l ∧ y = .ref b ∧ H l = some (.lst xs) ∧ H b = some (.lst zs) ∧ xs.length + zs.length ≤ sizeLine ∧ ∀ p, H p = none → Q (.ref p) (upd H p (.lst (xs ++ zs)))
theorem op_cat : OpR X (binaryOp .Add) rCat := by
  intro pins s σ H x y v u Q I rx ry h
  obtain ⟨l, b, xs, zs, rfl, rfl, hH, hB, hz, q⟩ := h
  cases rx
  cases ry
  obtain ⟨z, its, n, r, hl, e⟩ := I.lstM hH
  obtain ⟨z2, its2, n2, r2, hl2, e2⟩ := I.lstM hB
  refine PySem.P.add_list e e2 ?_ (by rw [List.size_toArray, List.size_toArray]; omega)
  have ea : its.toArray ++ its2.toArray = (its ++ its2).toArray := by simp
  rw [ea]
  exact ⟨.ref _, _, I.lnew (t' := s.toks) (r.append r2) (by rw [List.length_append]; omega), rfl, q _ I.fresh⟩

/-! ### del xs[i] -/
end

/-! ### xs[a:b] = ys -/
section
variable {prog : Program} {w : World} {A : Around} {E : Value → Shared → Prop} {s : Shared}
set_option maxRecDepth 100000 in
end

end L2

namespace Att
open PySem PySem.W PySem.Calls PyProof.Rows

/-! ### the script -/
theorem ints_of_wellAll {P : Params} {h : Heap} : ∀ (ns : List Int) (vs : List Value), WellAll P h vs (ns.map WData.int) → IntsAre vs ns := by
  intro ns
  induction ns with
  | nil =>
    intro vs w
    rw [List.map_nil] at w
    cases w
    exact .nil
  | cons n ns ih =>
    intro vs w
    rw [List.map_cons] at w
    cases w with
    | cons a b =>
      cases a
      exact .cons _ _ (ih _ b)

theorem script_of {l : OpenLaw} {n : Nat} (hn : l.most = some n) {P : Params} {h : Heap} {args : List WData} {vals : List Value}
    (hpre : l.row.toRowW.claim.pre args = true) (hwl : WellAll P h vals args) :
    ∃ a vs ns, vals = [Value.ref a] ∧ args = [WData.list (ns.map WData.int)] ∧ h.get? a = some { cls := .type "list", data := .seq vs.toArray } ∧ IntsAre vs ns ∧ ns.length ≤ n := by
  have hsh : WShape.hasAll [] args [.list .int] = true := (pre_splitW hpre).1
  have hc : l.pre.holds [] { args := args } = true := (pre_splitW hpre).2
  obtain ⟨d, r, rfl, h1, h2⟩ := hasAllW_cons hsh
  obtain rfl := hasAllW_nil h2
  obtain ⟨xs, rfl, h3⟩ := hasW_list h1
  obtain ⟨ns, rfl⟩ := items_int h3
  have hlen : ns.length ≤ n := by
    unfold OpenLaw.pre at hc
    have h4 : (WTm.not (.lt (.lit (.int (n : Int))) (.len (.arg 0)))).holds [] { args := [.list (ns.map .int)] } = true := by
      have h4 := (holds_andW hc).1
      rw [hn] at h4
      exact h4
    have h5 := condW_of h4 (w_not (w_lt w_lit (w_len_list (w_arg rfl))))
    rw [List.length_map] at h5
    refine Nat.le_of_not_lt fun q => ?_
    have q' : (n : Int) < ((ns.length : Nat) : Int) := by omega
    first
      | (rw [decide_eq_true q'] at h5; exact absurd h5 (by decide))
      | (simp at h5; omega)
  cases hwl with
  | cons w1 w2 =>
    cases w2
    cases w1 with
    | list ho hall => exact ⟨_, _, ns, rfl, rfl, ho, ints_of_wellAll ns _ hall, hlen⟩

theorem post_true (l : OpenLaw) (args : List WData) : l.row.toRowW.claim.post args (.bool true) args = true :=
  postW_of (r := l.row.toRowW) (X := (true == true))
    (show WShape.has [] (.bool true) .bool = true by first | rfl | decide | simp [WShape.has, WShape.arms, WShape.armsAll])
    (show (WTm.eq .res (.lit (.bool true))).value [] { args := args, res := some (.bool true), after := args } = some (.bool (true == true)) from w_eq_bool (w_res rfl) w_lit) rfl

/-! ### the attachment: holds_open's last premise (the goal 'hc' behind k_head) from a wpAny of the law's body -/

/-- the same from a codeAny of the CALL (for a layer whose function contracts speak of calls) -/
theorem attach_call {l : OpenLaw} {n : Nat} {q : Program} {loose : List Str} {XP : (Str → Option Value) → Heap → Prop} {YP : World → Heap → Prop} {d : DefRec}
    (hn : l.most = some n) (hdf : d.params.defaults = [])
    (call : ∀ (w : World) (s₀ s₁ : Shared) (mg mb : Str → Option Value) (fa : Addr) (o : Obj) (pm cd doc : Value) (a : Addr) (vs : List Value) (ns : List Int),
      Ground q loose [] XP w s₀ mg mb s₁.heap → YP w s₁.heap →
      s₁.heap.get? fa = some o → o.data = .func (docDef d.name d.params d.body d.scope pm cd doc) → s₁.heap.CodeRec cd d.name → mg d.name = some (.ref fa) →
      s₁.heap.get? a = some { cls := .type "list", data := .seq vs.toArray } → IntsAre vs ns → ns.length ≤ n → s₁.gens = #[] →
      codeAny (model l.prog w) callerA (.call (.ref fa) ⟨[.ref a], []⟩) (fun r s' => r = .ok (.ret (.bool true)) ∧ OldK s₁.heap s'.heap ∧ s'.os = s₁.os ∧ AllBare s'.gens) s₁) :
    WalkO q loose XP YP l.row.toRowW d [] (fun f vs => PySem.call f vs) := by
  intro w s₀ s₁ mg mb G Y fa o pm cd doc dV kV ho hd hcd hD hmg hg args vals as hpre hlay hrd hwl hlo
  obtain rfl : dV = .none := Dflts.none hD hdf
  obtain rfl : kV = .none := Dflts.noKw hD
  obtain ⟨a, vs, ns, rfl, rfl, hobj, hints, hlen⟩ := script_of hn hpre hwl
  refine enter_call (codeAny_mono (call w s₀ s₁ mg mb fa o pm cd doc a vs ns G Y ho (fd_plain hd) hcd hmg hobj hints hlen hg) fun r s' hq => ?_)
  obtain ⟨rfl, h2, h3, h4⟩ := hq
  exact ⟨.inl ⟨.bool true, .bool true, [], rfl, fun _ => rfl, .bool true, post_true l _, fun _ => ⟨List.Pairwise.nil, fun _ hm => (nomatch hm)⟩⟩, h2, h3, h4⟩


/-! ### rules over ANY heap (no ledger) from facts about the written part K: the library's own take a ledger (News) for what they write -/
section
variable {prog : Program} {w : World} {A : Around} {E : Value → Shared → Prop} {s : Shared} {K : Frag}





/-! the whole heap as the ledger: makes every rule that writes through a ledger a rule over any heap -/

end
end Att

namespace L2
open PySem PySem.Spec PyProof.Rows

theorem vals_ints : ∀ {vs : List Value} {ns : List Int}, IntsAre vs ns → Vals (ns.map V.int) vs
  | _, _, .nil => .nil
  | _, _, .cons n t h => .cons ⟨t, rfl⟩ (vals_ints h)

/-- nothing is tracked but the script, known to the object (or it is an object of the module) -/
def Only (H : Hp) : Prop := ∀ b, H b = none ∨ ∃ o xs, H b = some (.frz o (.lst xs))

/-- THE HEAD: the law's promise, at the heap behind the top. F, the promise of the law's def, may use that base is part of the heap (so K.In base, base.Ns mainGlobals mg stand in Mod) -/
theorem law_call {P : Program} {w : World} {K : PySem.W.Frag} {mg mb : Str → Option Value} {CX : CXT} {k : Nat} {fa a : Addr} {fd : FuncData} {x : Str} {sp : Sp} {s₁ : Shared} {vs : List Value} {ns : List Int}
    (KX : K.In s₁.heap) (hns : s₁.heap.Ns mainGlobals mg) (hb : s₁.heap.Ns builtinsNs mb) (hbb : ∀ x : Str, x ≠ "__name__" → mb x = bootBuiltins x) (hlim : s₁.heap.NoLimit) (hg : s₁.gens = #[])
    (ha : s₁.heap.get? a = some { cls := .type "list", data := .seq vs.toArray }) (hi : IntsAre vs ns) (hl : ns.length ≤ sizeLine) (hr : Room k callerA)
    (F : ∀ base : Heap, K.In base → base.Ns mainGlobals mg → FnOk P w K mg base CX k fa fd [x] sp) (hbind : ∀ (s : Shared) (u : Value), BindsTo s fd ⟨[u], []⟩ [(x, u)])
    (hsp : ∀ H : Hp, Only H → SqL K H a (ns.map V.int) → sp [.ref a] H (fun v _ => v = .bl true) fun _ _ _ => False)
    (hCX : ∀ H e s', CX [] H s₁ (fun _ _ _ => False) e s' → False) :
    codeAny (model P w) callerA (.call (.ref fa) ⟨[.ref a], []⟩) (fun r s' => r = .ok (.ret (.bool true)) ∧ OldK s₁.heap s'.heap ∧ s'.os = s₁.os ∧ AllBare s'.gens) s₁ := by
  have rv := vals_ints hi
  have lenV := hi.length
  -- from an abstract heap in which nothing but the script may be tracked
  have core : ∀ H : Hp, Only H → SqL K H a (ns.map V.int) → HOk P w H s₁.heap → (∀ b, H b ≠ none → b = a) → (H a ≠ none → K.lookup a = none) →
      codeAny (model P w) callerA (.call (.ref fa) ⟨[.ref a], []⟩) (fun r s' => r = .ok (.ret (.bool true)) ∧ OldK s₁.heap s'.heap ∧ s'.os = s₁.os ∧ AllBare s'.gens) s₁ := by
    intro H hO hS hok hA hK
    have base_of : ∀ {b : Addr} {o : Obj}, s₁.heap.get? b = some o → H b = none → (hidT s₁.heap H).get? b = some o := fun e n => hidT_get e n
    have noA : ∀ {b : Addr} {o : Obj} {es : Array DictEntry} {ep : Nat}, s₁.heap.get? b = some o → o.data = .dict es ep → H b = none := fun {b o es ep} e d => by
      cases q : H b with
      | none => rfl
      | some u =>
        have e' : b = a := hA b (by rw [q]; simp)
        subst e'
        rw [ha] at e; cases e
        have d' : Data.seq vs.toArray _ = Data.dict es ep := d
        cases d'
    have nsK : ∀ {b : Addr} {m : Str → Option Value}, s₁.heap.Ns b m → (hidT s₁.heap H).Ns b m := fun {b m} ⟨o, es, ep, e, d, r⟩ => ⟨o, es, ep, base_of e (noA e d), d, r⟩
    have hKb : K.In (hidT s₁.heap H) := fun b o e => base_of (KX b o e) (by
      cases q : H b with
      | none => rfl
      | some u =>
        have e' : b = a := hA b (by rw [q]; simp)
        subst e'
        rw [hK (by rw [q]; simp)] at e; cases e)
    have hM : Mod K mg (hidT s₁.heap H) := ⟨hKb, nsK hns, ⟨mb, nsK hb, hbb⟩, let ⟨mc, h1, h2⟩ := hlim; ⟨mc, nsK h1, h2⟩⟩
    have e0 : Env0 P w K mg (hidT s₁.heap H) callerA [] s₁ H := ⟨rfl, hM, fun b o e => of_hidT e, Nat.le_of_eq (hidT_size _ _), trivial, fun b hb => absurd (show b ∈ ([] : List Addr) from hb) (by simp), hok, .of_eq hg⟩
    refine codeAny_mono ((F _ hKb (nsK hns)).run callerA [] s₁ H ⟨[.ref a], []⟩ [.ref a] [.ref a] _ _ hr e0 (hbind s₁ (.ref a)) (.cons rfl .nil) (hsp H hO hS)) fun r s' h => ?_
    cases r with
    | error e => exact (hCX H e s' h).elim
    | ok fl =>
      cases fl with
      | next => exact False.elim h
      | brk => exact False.elim h
      | cont => exact False.elim h
      | ret u =>
        obtain ⟨v, H', os, bare, un, hok', r', q⟩ := h
        have q' : v = .bl true := q
        subst q'
        obtain rfl : u = Value.bool true := r'
        refine ⟨rfl, OldK.of_keep fun b o e => ?_, os, bare⟩
        cases q : H b with
        | none => exact un.keep b o e q (by intro z; exact absurd (show b ∈ ([] : List Addr) from z) (by simp)) (by simp)
        | some u =>
          rcases hO b with z | ⟨ob, xs, z⟩
          · rw [q] at z; cases z
          · have z2 := un.frzs b ob _ z
            obtain ⟨e1, _⟩ := hok b _ z
            obtain ⟨e2, _⟩ := hok' b _ z2
            rw [e] at e1; cases e1
            exact e2
  cases hk : K.lookup a with
  | some o =>
    -- the script is one of the module's own objects
    have e := KX a o hk
    rw [ha] at e
    cases e
    refine core (fun _ => none) (fun _ => .inl rfl) (.inr ⟨_, vs.toArray, _, hk, rfl, rfl, rfl, by rw [List.size_toArray, lenV]; exact hl, by simpa using rv⟩) (fun b u z => by have z' : (none : Option HO) = some u := z; cases z') (fun b z => absurd rfl z) fun z => absurd rfl z
  | none =>
    refine core (fun b => if b = a then some (.frz { cls := .type "list", data := .seq vs.toArray } (.lst (ns.map V.int))) else none) (fun b => ?_) (.inl (.inr ⟨{ cls := .type "list", data := .seq vs.toArray }, if_pos rfl⟩)) (fun b u z => ?_) (fun b z => ?_) fun _ => hk
    · by_cases hb : b = a
      · exact .inr ⟨_, _, if_pos hb⟩
      · exact .inl (if_neg hb)
    · by_cases hb : b = a
      · have z' := (if_pos hb).symm.trans z
        cases z'
        subst hb
        exact ⟨ha, by rw [List.length_map]; exact hl, vs, _, rv, ha⟩
      · have z' := (if_neg hb).symm.trans z
        cases z'
    · by_cases hb : b = a
      · exact hb
      · exact absurd (if_neg hb) z
end L2

namespace L2
open PySem PySem.Spec PyProof.Rows


/-- the goal that k_head leaves (case hc), from the law's promise. F gives the function object fd (K's own) once, then the promise over every base -/
theorem walk_of {l : PySem.W.OpenLaw} {n k : Nat} {q : Program} {loose : List Str} {XP : (Str → Option Value) → Heap → Prop} {YP : World → Heap → Prop} {d : DefRec} {K : Params → PySem.W.Frag} {CX : World → CXT} {sp : World → Sp} {x : Str}
    (hn : l.most = some n) (hn2 : n ≤ sizeLine) (hdf : d.params.defaults = []) (hr : Room k callerA)
    (hY : ∀ (w : World) (h : Heap), YP w h → (K w.params).In h)
    (F : ∀ (w : World) (mg : Str → Option Value) (fa : Addr) (h : Heap), (K w.params).In h → h.Ns mainGlobals mg → mg d.name = some (.ref fa) →
      ∃ fd : FuncData, (∀ (s : Shared) (u : Value), BindsTo s fd ⟨[u], []⟩ [(x, u)]) ∧
        ∀ base : Heap, (K w.params).In base → base.Ns mainGlobals mg → FnOk l.prog w (K w.params) mg base (CX w) k fa fd [x] (sp w))
    (hsp : ∀ (w : World) (H : Hp) (a : Addr) (ns : List Int), ns.length ≤ n → Only H → SqL (K w.params) H a (ns.map V.int) → sp w [.ref a] H (fun v _ => v = .bl true) fun _ _ _ => False)
    (hCX : ∀ (w : World) (H : Hp) (s : Shared) (e : Value) (s' : Shared), CX w [] H s (fun _ _ _ => False) e s' → False) :
    PySem.W.WalkO q loose XP YP l.row.toRowW d [] (fun f vs => PySem.call f vs) := by
  refine Att.attach_call hn hdf fun w s₀ s₁ mg mb fa o pm cd doc a vs ns G Y ho hd hcd hmg hobj hints hlen hg => ?_
  have KX := hY w _ Y
  obtain ⟨fd, hb, hF⟩ := F w mg fa _ KX G.T.g hmg
  exact law_call KX G.T.g G.T.b G.T.builtins G.T.nolimit hg hobj hints (Nat.le_trans hlen hn2) hr hF hb (fun H hO hS => hsp w H a ns hlen hO hS) fun H e s' => hCX w H s₁ e s'
end L2



/-! SHORT WORDS over the layer: a def of the text, its body, what a loop and a test want. -/
namespace L2
open PySem PySem.Spec PyProof.Rows

/-! ### the text by places -/
def defArgs (s : Stmt) : Arguments := match s with
  | .FunctionDef _ a _ _ _ _ _ _ _ _ => a
  | _ => { posonlyargs := [], args := [], vararg := none, kwonlyargs := [], kw_defaults := [], kwarg := none, defaults := [] }
def defBody (s : Stmt) : List Stmt := match s with
  | .FunctionDef _ _ b _ _ _ _ _ _ _ => b
  | _ => []
def defScope (s : Stmt) : Scope := match s with
  | .FunctionDef _ _ _ _ _ _ sc _ _ _ => sc
  | _ => { kind := .function, names := [], isGenerator := false, isCoroutine := false }

/-! ### no exception leaves a def -/
abbrev CX0 : CXT := fun _ _ _ _ _ _ => False
abbrev E0 : XK := fun _ _ _ => False
theorem pass0 {X : Cx} : Passes CX0 X E0 := fun _ _ _ _ _ _ _ h => h.elim

/-! ### a def (or method) of the text as it stands behind the top -/
structure Fun (K : PySem.W.Frag) (x qual : Str) (st : Stmt) (f : Addr) (fd : FuncData) : Prop where
  ex : ∃ (oc : Value) (od : Option Addr) (kV doc pm : Value) (an : Option Addr) (cdv ct : Value) (osl : Array (Option Value)),
    fd = PySem.W.fnOf x qual (defArgs st) (defBody st) (defScope st) .none kV doc pm an cdv ct ∧ K.lookup f = some ⟨oc, od, .func fd, osl⟩ ∧ PySem.W.codeIn K cdv qual = true
  kp : PySem.W.keepIn K (.ref f) = true
section
variable {P : Program} {w : World} {K : PySem.W.Frag} {mg : Str → Option Value} {base : Heap}
/-- THE RULE for a def: its body as a term of rules, and the reading of that term -/
theorem Fun.ok {x qual : Str} {st : Stmt} {f : Addr} {fd : FuncData} {N ps : List Str} {k : Nat} {sp : Sp} (F : Fun K x qual st f fd) (S : FnScope N ps (defScope st)) (len : ∀ vs H Q E, sp vs H Q E → vs.length = ps.length)
    (hbody : ∀ (cdv : Value) (A : Around) (outer : List Env) (s : Shared) (H : Hp) (vs : List V) (Q : VK) (E : XK), Room k (A.deeper (envOfC qual (defScope st) s.heap.objs.size f cdv)) → sp vs H Q E →
      ∃ t, PSs (cxOf CX0 P w K mg base N qual (defScope st) f cdv A outer s H E).nox (defBody st) t ∧ t { nx := fun _ H' => Q .non H', rt := Q } (start N vs) H) : FnOk P w K mg base CX0 (k + 1) f fd ps sp := by
  obtain ⟨oc, od, kV, doc, pm, an, cdv, ct, osl, rfl, lk, hcd⟩ := F.ex
  refine fn_of lk hcd S len fun A outer s H vs Q E hr hsp => ?_
  obtain ⟨t, h, q⟩ := hbody cdv A outer s H vs Q E hr hsp
  exact ⟨t, h.nox, q⟩
/-- how its arguments bind (no defaults): h is «fun _ _ _ _ _ _ us hl => match us, hl with | [_, _], _ => rfl», one _ a parameter -/
theorem Fun.binds {x qual : Str} {st : Stmt} {f : Addr} {fd : FuncData} {ps : List Str} (F : Fun K x qual st f fd)
    (h : ∀ (kV doc pm : Value) (an : Option Addr) (cdv ct : Value) (us : List Value), us.length = ps.length → bindArgs (PySem.W.fnOf x qual (defArgs st) (defBody st) (defScope st) .none kV doc pm an cdv ct) ⟨us, []⟩ = pure (ps.zip us)) : Binds K fd ps [] := by
  obtain ⟨oc, od, kV, doc, pm, an, cdv, ct, osl, rfl, lk, hcd⟩ := F.ex
  exact .all (h kV doc pm an cdv ct)
theorem fun_mk {x qual : Str} {st : Stmt} {f : Addr} {oc : Value} {od an : Option Addr} {osl : Array (Option Value)} {kV doc pm cdv ct : Value} (l : K.lookup f = some ⟨oc, od, .func (PySem.W.fnOf x qual (defArgs st) (defBody st) (defScope st) .none kV doc pm an cdv ct), osl⟩)
    (c : PySem.W.codeIn K cdv qual = true) (k : PySem.W.keepIn K (.ref f) = true) : Fun K x qual st f (PySem.W.fnOf x qual (defArgs st) (defBody st) (defScope st) .none kV doc pm an cdv ct) := ⟨⟨oc, od, kV, doc, pm, an, cdv, ct, osl, rfl, l, c⟩, k⟩
end
theorem small1000 {n : Nat} (h : n ≤ 1000) : n < sizeLine := Nat.lt_of_le_of_lt h (by decide)

/-! ### expressions in short: the name that stands in the i-th slot -/
section
variable {X : Cx}
theorem pv (i : Nat) {x : Str} {pos : Pos} (hN : X.N[i]? = some x := by rfl) (hv : Vis X.env.scope x := by first | exact Or.inl rfl | exact Or.inr (Or.inl rfl) | exact Or.inr (Or.inr rfl)) (hd : (x == ("__debug__" : Str)) = false := by decide)
    (hcd : (x == ("__classdict__" : Str)) = false := by decide) : PE X (.Name x pos) (tVar i) := pe_var hN hv hd hcd
end

/-! ### tests -/

/-! ### heaps -/
/-- all that was tracked is as it was -/
def Same (H H' : Hp) : Prop := ∀ b o, H b = some o → H' b = some o
theorem Same.trans {H H1 H2 : Hp} (a : Same H H1) (b : Same H1 H2) : Same H H2 := fun c o h => b c o (a c o h)
theorem Same.free {H H' : Hp} (e : Same H H') {l : Addr} (h : H' l = Option.none) : H l = Option.none := by
  cases q : H l with
  | none => rfl
  | some o =>
    rw [e l o q] at h
    cases h

end L2

set_option linter.all false
set_option maxRecDepth 100000
set_option maxHeartbeats 4000000
namespace L2
open PySem PySem.Spec PyProof.Rows
/-! wider rules of one's own over the layer -/
/-- so many bits at the most -/
def Bd (n : Nat) (i : Int) : Prop := i.natAbs < 2 ^ n
theorem Bd.mono {m n : Nat} {i : Int} (h : Bd m i) (e : m ≤ n) : Bd n i := Nat.lt_of_lt_of_le h (Nat.pow_le_pow_right (by decide) e)
theorem Bd.mul {m n : Nat} {i j : Int} (h : Bd m i) (g : Bd n j) : Bd (m + n) (i * j) := by
  unfold Bd at *
  rw [Int.natAbs_mul, Nat.pow_add]
  by_cases e : i.natAbs = 0
  · rw [e, Nat.zero_mul]; exact Nat.mul_pos (Nat.pow_pos (by decide)) (Nat.pow_pos (by decide))
  · exact Nat.mul_lt_mul_of_lt_of_le h (Nat.le_of_lt g) (Nat.pow_pos (by decide))
theorem Bd.neg {m : Nat} {i : Int} (h : Bd m i) : Bd m (-i) := by
  unfold Bd at *; rw [Int.natAbs_neg]; exact h
theorem Bd.bits {m : Nat} {i : Int} (h : Bd m i) : Builtin.Int.intBits i ≤ m := by
  unfold Bd at h
  unfold Builtin.Int.intBits
  split
  · exact Nat.zero_le _
  · rename_i hz
    have hn : i.natAbs ≠ 0 := by
      intro e; apply hz; have : i = 0 := Int.natAbs_eq_zero.mp e
      subst this; rfl
    have := (Nat.log2_lt hn).mpr h
    omega
theorem Bd.log {m : Nat} {i : Int} (h : Bd m i) (hm : 0 < m) : i.natAbs.log2 < m := by
  unfold Bd at h
  by_cases e : i.natAbs = 0
  · rw [e]; simpa using hm
  · exact (Nat.log2_lt e).mpr h
theorem Bd.le {m : Nat} {i j : Int} (h : Bd m j) (e : i.natAbs ≤ j.natAbs) : Bd m i := Nat.lt_of_le_of_lt e h
theorem mulOk_of {m n : Nat} {i j : Int} (h : Bd m i) (g : Bd n j) (e : m + n ≤ 134217728) : IntMulOk i j := by
  unfold IntMulOk
  intro z
  rw [Bool.and_eq_true, Bool.and_eq_true] at z
  obtain ⟨_, z⟩ := z
  unfold Builtin.Int.intTooBig at z
  have hz := of_decide_eq_true z
  have h1 := h.bits
  have h2 := g.bits
  have h3 : (bitsLine : Int) = 134217728 := by decide +kernel
  rw [h3] at hz
  omega
/-- a division that goes by no other module -/
def CDivB (_ j : Int) : Prop := j ≠ 0 ∧ Bd 9000 j
section
variable {X : Cx}
theorem op_mulB : OpR X (binaryOp .Mult) (rI IntMulOk fun i j => .int (i * j)) := opI fun _ _ _ _ _ _ _ hc q => mul_int q hc
theorem op_fdivB : OpR X (binaryOp .FloorDiv) (rI CDivB fun i j => .int (i.fdiv j)) := opI fun _ _ _ _ _ _ _ hc q => floordiv_int hc.1 q (.inl (PyProof.noPylong_of_log2 (hc.2.log (by decide))))
/-- isinstance(x, T), T a type of the language -/
theorem call_isinst : CallR X (.builtin "isinstance") (fun xs H Q => ∃ x n t b, xs = [x, .ty n] ∧ TyOf X.K H x t ∧ PySem.W.kitOne X.K t (.type n) = some b ∧ Q (.bl b) H) := by
  intro pins s σ H xs us Q I r h
  obtain ⟨x, n, t, b, rfl, ty, e, q⟩ := h
  obtain ⟨u, v, rfl, ru, rv⟩ := vals2 r
  cases (show v = Value.type n from rv)
  exact isinst_ok I ru ty e fun tk => ⟨.bl b, H, I.tok _, rfl, q⟩
theorem kit_same {K : PySem.W.Frag} {n : String} : PySem.W.kitOne K (.type n) (.type n) = some true := by
  unfold PySem.W.kitOne; rw [if_pos (beq_self_eq_true _)]
/-- all(xs), any(xs) of bools -/
theorem boolsAre_of : ∀ {bs : List Bool} {us : List Value}, Vals (bs.map V.bl) us → PyProof.Rows.LSm.BoolsAre us bs := by
  intro bs
  induction bs with
  | nil => intro us h; cases h; exact .nil
  | cons b bs ih =>
    intro us h
    cases h with
    | cons r t =>
      cases (show _ = Value.bool b from r)
      exact .cons _ (ih t)
theorem call_all (hc : X.calm = true) : CallR X (.builtin "all") (fun xs H Q => ∃ (p : Addr) (bs : List Bool), xs = [.ref p] ∧ SqL X.K H p (bs.map V.bl) ∧ Q (.bl (bs.all id)) H) := by
  intro pins s σ H xs us Q I r h
  obtain ⟨p, bs, rfl, hq, q⟩ := h
  obtain ⟨u, rfl, ru⟩ := vals1 r
  cases ru
  obtain ⟨vs, rv, pl, hz⟩ := I.list hq
  have hl := pl.isList
  have hb := boolsAre_of rv
  have hh : X.A.handled = none := I.ok.hd hc
  have hlt : p < s.heap.objs.size := by obtain ⟨_, e, _⟩ := hl; exact Heap.lt_size e
  have W := Walks.list (A := X.A.in1) (prog := X.prog) (w := X.w) hh s.heap.objs.size p (Nat.ne_of_lt hlt) vs.toArray
  have tr : ∀ (i : Nat) (v : Value) (s' : Shared) (Q' : Bool → Shared → Prop) (E' : Value → Shared → Prop), vs.toArray[i]? = some v → Q' ((bs[i]?).getD true) s' → wpAny (model X.prog X.w) X.A.in1 (truthy v) Q' E' s' := fun i v s' Q' E' e q' => by
    obtain ⟨b, e2, rfl⟩ := hb.get i v (by simpa using e)
    rw [e2] at q'
    exact wpAny_truthy_bool q'
  have tot : ((List.range vs.toArray.size).all fun i => (bs[i]?).getD true) = bs.all id := by
    rw [List.size_toArray, hb.length]
    exact PyProof.Rows.LSm.range_all bs
  exact call_all_walk (wpAny_pyIter_list hl ⟨_, _, _, _, _, _, fun i => (bs[i]?).getD true, rfl, W, ⟨⟨_, Heap.get?_push_size _ rfl, rfl, rfl⟩, hl.push _⟩, tr, fun h' tk hk => by
    rw [tot]
    exact ⟨.bl _, H, I.kept (PyProof.Rows.LSm.kept_iter hk), rfl, q⟩⟩)
end
/-! ### == of tuples and lists of data -/
end L2

set_option linter.all false
set_option maxRecDepth 100000
set_option maxHeartbeats 4000000
namespace L2
open PySem PySem.Spec PyProof.Rows
/-! ### a comprehension -/
/-- the context of its block -/
def blk (X : Cx) (N' : List Str) (scope : Scope) (cl : List (Str × Addr)) (C : Addr) (fp : List Addr) (s0 : Shared) (H0 : Hp) : Cx :=
  { X with N := N', s₀ := s0, H₀ := H0, env := compEnvC scope cl C X.env, outer := X.stack, stack := X.stack, ex := fp, fn := fun _ => false, pn := [], xe := fun _ _ => False }
/-- what was known of the slots is known -/
def KeepS (a b : St) : Prop := b.length = a.length ∧ ∀ (i : Nat) v, a[i]? = some (some v) → b[i]? = some (some v)
theorem KeepS.none1 {v : Option V} : KeepS [none] [v] := ⟨rfl, fun i w h => by
  cases i with
  | zero => cases h
  | succ i => simp at h⟩
theorem KeepS.cons {a b : St} (h : KeepS a b) (v : Option V) : KeepS (none :: a) (v :: b) := ⟨by simp [h.1], fun i w e => by
  cases i with
  | zero => cases e
  | succ i => simpa using h.2 i w (by simpa using e)⟩
theorem KeepS.refl (a : St) : KeepS a a := ⟨rfl, fun _ _ h => h⟩
def tComp (wi : TI) (fr : St → St) (g : TG) (te : TE) : TE := fun σ H Q => wi σ H fun J H1 => ∀ D, H1 D = none → ∃ W : Nat → Nat → List V → Hp → Prop, (∃ m, W 0 m [] (upd H1 D (.lst []))) ∧
  ∀ i m ys H2, W i m ys H2 → (J.stop i H2 ∧ Q (.ref D) H2) ∨ (J.go i H2 ∧ ys.length < sizeLine ∧ ∀ x H3, J.yld i H2 x H3 → g x (fr σ) H3 fun σ2 H3' => KeepS (fr σ) σ2 ∧ te σ2 H3' fun y H4 =>
    H4 D = some (.lst ys) ∧ ∃ m', m' < m ∧ W (i + 1) m' (ys ++ [y]) (upd H4 D (.lst (ys ++ [y]))))
section
variable {X : Cx}
theorem blk_ok {pins : List (Addr × Obj)} {σ : St} {H : Hp} {s : Shared} {N' : List Str} {scope : Scope} {cl : List (Str × Addr)} {fp : List Addr} (I : Inv X pins σ H s) (hkind : scope.kind = .function)
    (hcl : ∀ y c, cl.lookup y = some c → X.env.cells.lookup y = some c) (hhas : ∀ y, ((relabel scope X.env).names.lookup y = some .cell ∨ (relabel scope X.env).names.lookup y = some .free) → ∃ c, cl.lookup y = some c)
    (hf : ∀ b ∈ fp, FpOk X pins H b) (hlt : ∀ b ∈ fp, b < s.heap.objs.size) : (blk X N' scope cl s.heap.objs.size fp s H).Ok where
  mod := I.ok.mod
  kind := by simp [blk, compEnvC, relabel, hkind]
  glob := I.ok.glob
  blt := I.ok.blt
  above := Nat.le_refl _
  inj := fun x y c h1 h2 => I.ok.inj x y c (hcl x c h1) (hcl y c h2)
  has := fun x h => hhas x h
  cab := fun x c h => nomatch h
  hd := I.ok.hd
  frames := I.ok.frames
  stk := .inl rfl
  exf := fun b hb => ⟨Nat.ne_of_lt (hlt b hb), fun x c e => (hf b hb).2.2.2.2.1 x c (hcl x c e)⟩
  bs := I.bs
  bsz := Nat.le_trans I.ok.bsz I.sz
  noex := fun b o e hb => by
    rcases (hf b hb).2.2.2.1 with z | z
    · exact I.ok.noex b o e z
    · exact absurd (Nat.lt_of_lt_of_le (Heap.lt_size e) (Nat.le_trans I.ok.bsz z)) (Nat.lt_irrefl _)
  exfs := fun b hb z => by
    rcases List.mem_cons.mp (I.stkSub b z) with e | e
    · exact (hf b hb).2.1 e
    · exact (hf b hb).2.2.1 e
  funs := I.stack
  frf := I.stkFree
theorem pe_lcomp {tg elt iter : Expr} {scope : Scope} {cl : List (Str × Addr)} {pos : Pos} {N' : List Str} {wi : TI} {fr : St → St} {g : TG} {te : TE}
    (hc : X.calm = true) (hi : PI X tg iter wi)
    (hg : ∀ C fp s0 H0, PG (blk X N' scope cl C fp s0 H0) tg g) (he : ∀ C fp s0 H0, PE (blk X N' scope cl C fp s0 H0) elt te)
    (hclos : closureFor scope X.env = pure cl) (hkind : scope.kind = .function) (hnames : ∀ x ∈ scope.names, x.2 = .local → scope.names.lookup x.1 = some .local) (hcell : ∀ y ∈ scope.names, y.2 ≠ .cell)
    (hcl : ∀ y c, cl.lookup y = some c → X.env.cells.lookup y = some c) (hhas : ∀ y, ((relabel scope X.env).names.lookup y = some .cell ∨ (relabel scope X.env).names.lookup y = some .free) → ∃ c, cl.lookup y = some c)
    (hfl : ∀ σ : St, σ.length = X.N.length → (fr σ).length = N'.length)
    (hfr : ∀ (σ : St) (i : Nat) (y : Str) (v : V), N'[i]? = some y → (fr σ)[i]? = some (some v) → ∃ j : Nat, X.N[j]? = some y ∧ σ[j]? = some (some v) ∧ X.env.kindOf y = some .cell ∧ (relabel scope X.env).names.lookup y = some .cell)
    (hs : ∀ x, foldedSetIterable iter X.env x = pure x := by intro _; rfl) :
    PE X (.ListComp elt [⟨tg, iter, [], 0⟩] scope pos) (tComp wi fr g te) := by
  intro pins s σ H Q I h
  rw [eval_ListComp]
  refine wpAny_comprehension_free (use := none) rfl hs hclos hkind hnames ?_
  refine thn (hi pins s σ H _ I h) fun v s1 h1 => thn h1 fun itv s2 h2 => ?_
  obtain ⟨it, fp, tn, J, H2, rfl, I2, T, st2, f2, q2⟩ := h2
  have D0 : H2 s2.heap.objs.size = none := I2.hok.fresh (Nat.le_refl _)
  obtain ⟨W, ⟨m0, w0⟩, turn⟩ := q2 _ D0
  refine wpAny_newObj_type (wpAny_newFunctionEnv hcell (by intro y hy; simp at hy) (fun h₁ hns₁ hsb₁ => ?_) hkind)
  dsimp only at hns₁ hsb₁ ⊢
  have I3 : Inv X pins σ (upd H2 s2.heap.objs.size (.lst [])) { s2 with heap := s2.heap.push { cls := .type "list", dict := none, data := .seq ([] : List Value).toArray } } :=
    I2.laid (t' := s2.toks) (fun b u e => Heap.get?_push_of_some _ e) (Nat.le_refl _) ⟨Nat.zero_le _, [], _, .nil, Heap.get?_push_size _ rfl⟩
  generalize hH3 : upd H2 s2.heap.objs.size (.lst []) = H3 at I3 w0
  generalize hs3 : ({ s2 with heap := s2.heap.push { cls := .type "list", dict := none, data := .seq ([] : List Value).toArray } } : Shared) = s3 at I3
  have eh : s3.heap = s2.heap.push { cls := .type "list", dict := none, data := .seq ([] : List Value).toArray } := by rw [← hs3]
  have fl : ∀ b ∈ fp, b < s2.heap.objs.size := fun b hb => by
    obtain ⟨o, e, _⟩ := T.obj 0 _ st2 b hb
    exact Heap.lt_size e
  have fn : ∀ b ∈ fp, H3 b = none := fun b hb => by
    rw [← hH3, upd_ne (Nat.ne_of_lt (fl b hb))]; exact (f2 b hb).1
  have f3 : ∀ b ∈ fp, FpOk X pins H3 b := fun b hb => ⟨fn b hb, (f2 b hb).2⟩
  have old : ∀ b u, s3.heap.get? b = some u → h₁.get? b = some u := fun b u e => by
    refine hsb₁.extBut b u ?_ (Heap.get?_push_of_some _ (by rw [← eh]; exact e))
    have := Heap.lt_size e
    rw [eh] at this
    exact Nat.ne_of_lt this
  have up : ∀ b u, s2.heap.get? b = some u → s3.heap.get? b = some u := fun b u e => by rw [eh]; exact Heap.get?_push_of_some _ e
  have ok := blk_ok (N' := N') (scope := scope) (cl := cl) (fp := fp) I3 hkind hcl hhas f3 fun b hb => by rw [eh, Heap.size_push]; exact Nat.lt_succ_of_lt (fl b hb)
  rw [← eh] at hns₁ ⊢
  have IB : Inv (blk X N' scope cl s3.heap.objs.size fp s3 H3) [] (fr σ) H3 { s3 with heap := h₁, toks := s2.toks + ([] : List (Str × Value)).length } := by
    refine ⟨ok, rfl, I3.bare, Un.kept old, ⟨_, hns₁, fun i y v e1 e2 e3 => ?_⟩, fun x c e => ?_, I3.hok.fresh (Nat.le_refl _), fun x c e => I3.freeC x c (hcl x c e), fun p hp => by simp [blk] at hp, I3.hok.kept old, hfl σ I3.len⟩
    · obtain ⟨j, n1, n2, n3, n4⟩ := hfr σ i y v e1 e2
      obtain ⟨m, _, hl⟩ := I3.loc
      obtain ⟨u, r, l⟩ := hl j y v n1 n2 (.inr (.inl n3))
      refine ⟨u, r, .inr ⟨.inl n4, ?_⟩⟩
      rcases l with ⟨k, _⟩ | ⟨_, c, e, ic⟩
      · rw [n3] at k; cases k
      · obtain ⟨c', e'⟩ := hhas y (.inl n4)
        have e'' := hcl y c' e'
        rw [e] at e''; cases e''
        obtain ⟨o, ho, hd⟩ := ic
        exact ⟨c, e', o, old c o ho, hd⟩
    · obtain ⟨v, o, ho, hd⟩ := I3.cell x c (hcl x c e)
      exact ⟨v, o, old c o ho, hd⟩
  have stB : tn 0 h₁ := T.keep _ _ _ st2 fun b hb o e => old b o (up b o e)
  have D2 : s2.heap.objs.size < s3.heap.objs.size := by rw [eh, Heap.size_push]; exact Nat.lt_succ_self _
  have stat : ∀ {H' : Hp}, (∀ b ∈ fp, H' b = none) → ∀ b ∈ fp, FpOk (blk X N' scope cl s3.heap.objs.size fp s3 H3) [] H' b := fun hn b hb =>
    ⟨hn b hb, Nat.ne_of_lt (Nat.lt_trans (fl b hb) D2), ok.exfs b hb, .inl hb, fun x c e => (ok.exf b hb).2 x c e, fun p hp => by simp [blk] at hp⟩
  have loop : codeAny (model X.prog X.w) X.A (.compLoop (.ListComp elt [⟨tg, iter, [], 0⟩] scope pos) 0 (.ref it) (.ref s2.heap.objs.size) (compEnvC scope cl s3.heap.objs.size X.env))
      (compPost (model X.prog X.w) X.A X.xe none (EP X pins σ Q) (.ref s2.heap.objs.size) s3.heap.objs.size) { s3 with heap := h₁, toks := s2.toks + ([] : List (Str × Value)).length } := by
    refine codeAny_loop rfl (fun n s' => ∃ i ys H', Inv (blk X N' scope cl s3.heap.objs.size fp s3 H3) [] (fr σ) H' s' ∧ tn i s'.heap ∧ (∀ b ∈ fp, H' b = none) ∧ W i n ys H') ?_ m0 ⟨0, [], H3, IB, stB, fn, w0⟩
    rintro n s4 ⟨i, ys, H4, I4, st4, fr4, w4⟩
    show wpAny _ _ ((compTurn (.ListComp elt [⟨tg, iter, [], 0⟩] scope pos) 0 (.ref it) (.ref s2.heap.objs.size) (compEnvC scope cl s3.heap.objs.size X.env)).onRaise (fun x => do noteFrame x (compEnvC scope cl s3.heap.objs.size X.env); theTreesLotGoes x)) _ _ s4
    refine wpAny_noted ?_
    rw [compTurn_list1]
    refine wpAny_bind (wpAny_standAt (wpAny_bind ?_))
    rcases turn i n ys H4 w4 with ⟨stop, qn⟩ | ⟨go, hz, step⟩
    · refine thn (T.done (blk X N' scope cl s3.heap.objs.size fp s3 H3) rfl rfl rfl hc i [] s4 (fr σ) H4 _ I4 (stat fr4) st4 stop) fun r s5 ⟨hr, I5⟩ => ?_
      subst hr
      refine wpAny_pure ?_
      obtain ⟨m, hn, _⟩ := I5.loc
      refine ⟨m, hn, fun h' sb => ⟨.ref s2.heap.objs.size, H4, ?_, rfl, qn⟩⟩
      have hb : ∀ b u, b ≠ s3.heap.objs.size → s5.heap.get? b = some u → h'.get? b = some u := fun b u n e => sb.extBut b u n e
      have hlt : ∀ b u, s3.heap.get? b = some u → b ≠ s3.heap.objs.size := fun b u e => Nat.ne_of_lt (Heap.lt_size e)
      have B := I5.base
      refine I3.call' (s' := { s5 with heap := h' }) (ch := fp) I5.os ⟨fun b o e n1 n2 n3 => hb b o (hlt b o e) (B.keep b o e n1 n2 n3), fun b o e n1 n2 n3 => ?_, B.free, fun b o e n1 => ?_, B.tups, B.frzs, B.tbls⟩ (fun a o e => ?_) I5.bare (fun b hb' => ?_)
      · obtain ⟨sl, z⟩ := B.slot b o e n1 n2 n3
        exact ⟨sl, hb b _ (hlt b o e) z⟩
      · obtain ⟨o', z⟩ := B.there b o e n1
        exact ⟨o', hb b _ (hlt b o e) z⟩
      · have nC : ∀ c u, H4 c = some u → c ≠ s3.heap.objs.size := fun c u z w => by
          have := I5.free
          rw [show (blk X N' scope cl s3.heap.objs.size fp s3 H3).env.locals = s3.heap.objs.size from rfl, ← w, z] at this
          cases this
        refine (I5.hok a o e).stay (fun c u hcu q => hb c u ?_ q) (fun _ q => q) fun _ _ q => q
        rcases hcu with z | z
        · rw [z]; exact nC a o e
        · exact nC c _ z
      · exact ⟨(f2 b hb').2.2.2.1, (f2 b hb').2.1, (f2 b hb').2.2.2.2.1, (f2 b hb').2.2.2.2.2⟩
    · refine thn (T.item (blk X N' scope cl s3.heap.objs.size fp s3 H3) rfl rfl rfl hc i [] s4 (fr σ) H4 _ I4 (stat fr4) st4 go) fun r s5 ⟨u, hr, h5⟩ => ?_
      subst hr
      refine wpAny_bind (thn h5 fun _ s6 ⟨x, H6, I6, r6, y6, st6, fr6⟩ => ?_)
      have I6' := I6.pinned (stat fr6) (T.obj _ _ st6)
      refine wpAny_bind (wpAny_mono (hg s3.heap.objs.size fp s3 H3 _ s6 (fr σ) H6 x u _ I6' r6 (step x H6 y6)) (fun _ s7 ⟨σ7, H7, I7, kp, q7⟩ => ?_) fun _ _ z => z.elim)
      refine wpAny_bind (wpAny_bind (wpAny_mono (he s3.heap.objs.size fp s3 H3 _ s7 σ7 H7 _ I7 q7) (fun v8 s8 ⟨y8, H8, I8, r8, hD, m', hm, w8⟩ => ?_) fun _ _ z => z.elim))
      have ap := mt_append (X := blk X N' scope cl s3.heap.objs.size fp s3 H3) _ s8 σ7 H8 (.ref s2.heap.objs.size) [y8] (.ref s2.heap.objs.size) [v8] (fun _ H9 => W (i + 1) m' (ys ++ [y8]) H9) I8 rfl (.cons r8 .nil) ⟨_, ys, y8, rfl, rfl, hD, hz, w8⟩
      refine wpAny_bind (wpAny_mono ap (fun _ s9 ⟨_, H9, I9, _, w9⟩ => wpAny_pure (wpAny_pure ⟨rfl, m', hm, i + 1, ys ++ [y8], H9, ?_, ?_, ?_, w9⟩)) fun _ _ z => z.elim)
      · exact I9.unpinned.weak (by rw [kp.1]) kp.2
      · exact T.keep _ _ _ st6 fun b hb o e => (I9.pin (b, o) (List.mem_append_right _ (List.mem_append_right _ (mem_pinsAt hb e)))).1
      · intro b hb
        obtain ⟨o, e, d⟩ := T.obj _ _ st6 b hb
        exact (I9.pin (b, o) (List.mem_append_right _ (List.mem_append_right _ (mem_pinsAt hb e)))).2.1
  subst hs3
  exact codeAny_compStart_list loop (T.self X.A 0 _ _ _ stB loop)
end
end L2

set_option linter.all false
set_option maxRecDepth 100000
set_option maxHeartbeats 4000000
namespace L2
open PySem PySem.Spec PyProof.Rows
/-! ### readings by what they give -/
def Gv (t : TE) (σ : St) (H : Hp) (R : V → Hp → Prop) : Prop := ∀ Q : VK, (∀ v H', R v H' → Q v H') → t σ H Q
def GvT (t : TT) (σ : St) (H : Hp) (R : Bool → Hp → Prop) : Prop := ∀ Q : Bool → Hp → Prop, (∀ v H', R v H' → Q v H') → t σ H Q
def GvA (t : TA) (σ : St) (H : Hp) (R : List V → Hp → Prop) : Prop := ∀ Q : List V → Hp → Prop, (∀ v H', R v H' → Q v H') → t σ H Q
/-- one value, the heap as it is -/
def Pu (t : TE) (σ : St) (H : Hp) (v : V) : Prop := ∀ Q : VK, Q v H → t σ H Q
def PuT (t : TT) (σ : St) (H : Hp) (b : Bool) : Prop := ∀ Q : Bool → Hp → Prop, Q b H → t σ H Q
def PuA (t : TA) (σ : St) (H : Hp) (vs : List V) : Prop := ∀ Q : List V → Hp → Prop, Q vs H → t σ H Q
def Is1 (v : V) (H : Hp) : V → Hp → Prop := fun w H' => w = v ∧ H' = H
section
variable {σ : St} {H : Hp} {t ta tb tc : TE} {x y z v : V} {i j : Int} {b c : Bool}
theorem Pu.gv (h : Pu t σ H v) : Gv t σ H (Is1 v H) := fun Q q => h Q (q v H ⟨rfl, rfl⟩)
theorem Pu.gv' {R : V → Hp → Prop} (h : Pu t σ H v) (r : R v H) : Gv t σ H R := fun Q q => h Q (q v H r)
theorem Gv.imp {R R' : V → Hp → Prop} (h : Gv t σ H R) (f : ∀ v H', R v H' → R' v H') : Gv t σ H R' := fun Q q => h Q fun v H' r => q v H' (f v H' r)
theorem pu_v {k : Nat} (h : σ[k]? = some (some v)) : Pu (tVar k) σ H v := fun _ q => ⟨v, h, q⟩
theorem pu_c : Pu (tC v) σ H v := fun _ q => q
theorem pu_add (ha : Pu ta σ H (.int i)) (hb : Pu tb σ H (.int j)) : Pu (tOp (rI0 fun i j => .int (i + j)) ta tb) σ H (.int (i + j)) := fun _ q => ha _ (hb _ ⟨i, j, rfl, rfl, q⟩)
theorem pu_sub (ha : Pu ta σ H (.int i)) (hb : Pu tb σ H (.int j)) : Pu (tOp (rI0 fun i j => .int (i - j)) ta tb) σ H (.int (i - j)) := fun _ q => ha _ (hb _ ⟨i, j, rfl, rfl, q⟩)
theorem pu_mul (ha : Pu ta σ H (.int i)) (hb : Pu tb σ H (.int j)) (hm : IntMulOk i j) : Pu (tOp (rI IntMulOk fun i j => .int (i * j)) ta tb) σ H (.int (i * j)) := fun _ q => ha _ (hb _ ⟨i, j, rfl, rfl, hm, q⟩)
theorem pu_fdiv (ha : Pu ta σ H (.int i)) (hb : Pu tb σ H (.int j)) (hm : CDivB i j) : Pu (tOp (rI CDivB fun i j => .int (i.fdiv j)) ta tb) σ H (.int (i.fdiv j)) := fun _ q => ha _ (hb _ ⟨i, j, rfl, rfl, hm, q⟩)
theorem pu_mod (ha : Pu ta σ H (.int i)) (hb : Pu tb σ H (.int j)) (hm : j ≠ 0) : Pu (tOp (rI (fun _ j => j ≠ 0) fun i j => .int (i.fmod j)) ta tb) σ H (.int (i.fmod j)) := fun _ q => ha _ (hb _ ⟨i, j, rfl, rfl, hm, q⟩)
theorem pu_pow (ha : Pu ta σ H (.int i)) (hb : Pu tb σ H (.int j)) (hm : CPow i j) : Pu (tOp (rI CPow fun i j => .int (i ^ j.toNat)) ta tb) σ H (.int (i ^ j.toNat)) := fun _ q => ha _ (hb _ ⟨i, j, rfl, rfl, hm, q⟩)
theorem pu_neg (ha : Pu ta σ H (.int i)) : Pu (tUn (rU fun i => .int (-i)) ta) σ H (.int (-i)) := fun _ q => ha _ ⟨i, rfl, q⟩
theorem pu_lt (ha : Pu ta σ H (.int i)) (hb : Pu tb σ H (.int j)) : Pu (tOp (rI0 fun i j => .bl (decide (i < j))) ta tb) σ H (.bl (decide (i < j))) := fun _ q => ha _ (hb _ ⟨i, j, rfl, rfl, q⟩)
theorem pu_gt (ha : Pu ta σ H (.int i)) (hb : Pu tb σ H (.int j)) : Pu (tOp (rI0 fun i j => .bl (decide (j < i))) ta tb) σ H (.bl (decide (j < i))) := fun _ q => ha _ (hb _ ⟨i, j, rfl, rfl, q⟩)
theorem pu_ge (ha : Pu ta σ H (.int i)) (hb : Pu tb σ H (.int j)) : Pu (tOp (rI0 fun i j => .bl (decide (j ≤ i))) ta tb) σ H (.bl (decide (j ≤ i))) := fun _ q => ha _ (hb _ ⟨i, j, rfl, rfl, q⟩)
theorem pu_eqI (ha : Pu ta σ H (.int i)) (hb : Pu tb σ H (.int j)) : Pu (tOp rEq ta tb) σ H (.bl (decide (i = j))) := fun _ q => ha _ (hb _ ⟨rfl, by rw [dec_int, Bool.beq_eq_decide_eq]; exact q⟩)
theorem pu_neI (ha : Pu ta σ H (.int i)) (hb : Pu tb σ H (.int j)) : Pu (tOp rNe ta tb) σ H (.bl (!decide (i = j))) := fun _ q => ha _ (hb _ ⟨rfl, by rw [dec_int, Bool.beq_eq_decide_eq]; exact q⟩)
theorem pu_ixT {K : PySem.W.Frag} {p : Addr} {xs : List V} (ha : Pu ta σ H (.ref p)) (hb : Pu tb σ H (.int i)) (h : SqT K H p xs) (e : atI xs i = some v) : Pu (tOp (rIxT K) ta tb) σ H v := fun _ q => ha _ (hb _ ⟨p, xs, i, v, rfl, rfl, h, e, q⟩)
theorem pu_ixL {K : PySem.W.Frag} {p : Addr} {xs : List V} (ha : Pu ta σ H (.ref p)) (hb : Pu tb σ H (.int i)) (h : SqL K H p xs) (e : atI xs i = some v) : Pu (tOp (rIxL K) ta tb) σ H v := fun _ q => ha _ (hb _ ⟨p, xs, i, v, rfl, rfl, h, e, q⟩)
theorem pa_n : PuA tNil σ H [] := fun _ q => q
theorem pa_c {tr : TA} {vs : List V} (ha : Pu ta σ H x) (hr : PuA tr σ H vs) : PuA (tCons ta tr) σ H (x :: vs) := fun _ q => ha _ (hr _ q)
theorem pu_lenL {K : PySem.W.Frag} {p : Addr} {ys : List V} {t : TA} (ha : PuA t σ H [.ref p]) (h : SqL K H p ys) : Pu (tCB (fun xs H Q => ∃ p ys, xs = [.ref p] ∧ (SqL K H p ys ∨ SqT K H p ys) ∧ Q (.int ys.length) H) t) σ H (.int ys.length) := fun _ q => ha _ ⟨p, ys, rfl, .inl h, q⟩
theorem pu_lenT {K : PySem.W.Frag} {p : Addr} {ys : List V} {t : TA} (ha : PuA t σ H [.ref p]) (h : SqT K H p ys) : Pu (tCB (fun xs H Q => ∃ p ys, xs = [.ref p] ∧ (SqL K H p ys ∨ SqT K H p ys) ∧ Q (.int ys.length) H) t) σ H (.int ys.length) := fun _ q => ha _ ⟨p, ys, rfl, .inr h, q⟩
theorem pu_abs {t : TA} (ha : PuA t σ H [.int i]) : Pu (tCB (fun xs H Q => ∃ i, xs = [.int i] ∧ Q (.int (if i < 0 then -i else i)) H) t) σ H (.int (i.natAbs : Int)) := fun _ q => ha _ ⟨i, rfl, by
  rw [show (if i < 0 then -i else i) = (i.natAbs : Int) by split <;> omega]; exact q⟩
theorem pu_isi {K : PySem.W.Frag} {n : String} {u : Value} {t : TA} (ha : PuA t σ H [x, .ty n]) (ty : TyOf K H x u) (e : PySem.W.kitOne K u (.type n) = some b) :
    Pu (tCB (fun xs H Q => ∃ x n t b, xs = [x, .ty n] ∧ TyOf K H x t ∧ PySem.W.kitOne K t (.type n) = some b ∧ Q (.bl b) H) t) σ H (.bl b) := fun _ q => ha _ ⟨x, n, u, b, rfl, ty, e, q⟩
/-! tests -/
theorem pt_t (h : Pu t σ H (.bl b)) : PuT (tTest t) σ H b := fun _ q => h _ ⟨b, rfl, q⟩
theorem pt_b (h : Pu t σ H (.bl b)) : PuT (tB t) σ H b := fun _ q => h _ ⟨b, rfl, q⟩
theorem pt_n {t : TT} (h : PuT t σ H b) : PuT (tNot t) σ H (!b) := fun _ q => h _ q
theorem pt_and {t u : TT} (h : PuT t σ H b) (g : b = true → PuT u σ H c) : PuT (tAnd t u) σ H (b && c) := fun Q q => h _ (by
  cases b with
  | true => rw [if_pos rfl]; exact g rfl Q (by simpa using q)
  | false => rw [if_neg Bool.false_ne_true]; simpa using q)
theorem pt_or {t u : TT} (h : PuT t σ H b) (g : b = false → PuT u σ H c) : PuT (tOr t u) σ H (b || c) := fun Q q => h _ (by
  cases b with
  | false => rw [if_neg Bool.false_ne_true]; exact g rfl Q (by simpa using q)
  | true => rw [if_pos rfl]; simpa using q)
theorem pu_and (h : Pu ta σ H (.bl b)) (g : b = true → Pu tb σ H (.bl c)) : Pu (tAndV ta tb) σ H (.bl (b && c)) := fun Q q => h _ ⟨b, rfl, by
  cases b with
  | true => rw [if_pos rfl]; exact g rfl Q (by simpa using q)
  | false => rw [if_neg Bool.false_ne_true]; simpa using q⟩
theorem pu_not (h : Pu ta σ H (.bl b)) : Pu (tNotV ta) σ H (.bl (!b)) := fun _ q => h _ ⟨b, rfl, q⟩
/-! tests with calls that lay things -/
theorem gt_or {t u : TT} {R R' : Bool → Hp → Prop} (h : GvT t σ H R) (g : ∀ H', R false H' → GvT u σ H' R') (e : ∀ H', R true H' → R' true H') : GvT (tOr t u) σ H R' := fun Q q => h _ fun v H' r => by
  cases v with
  | false => rw [if_neg Bool.false_ne_true]; exact g H' r Q q
  | true => rw [if_pos rfl]; exact q _ _ (e H' r)
theorem gt_and {t u : TT} {R R' : Bool → Hp → Prop} (h : GvT t σ H R) (g : ∀ H', R true H' → GvT u σ H' R') (e : ∀ H', R false H' → R' false H') : GvT (tAnd t u) σ H R' := fun Q q => h _ fun v H' r => by
  cases v with
  | true => rw [if_pos rfl]; exact g H' r Q q
  | false => rw [if_neg Bool.false_ne_true]; exact q _ _ (e H' r)
theorem PuT.gt {t : TT} {R : Bool → Hp → Prop} (h : PuT t σ H b) (r : R b H) : GvT t σ H R := fun Q q => h Q (q _ _ r)
/-! statements -/
variable {te : TE} {D : Ends} {rest u : TS} {k : Nat}
theorem st_set (h : Pu te σ H v) (q : rest D (σ.set k (some v)) H) : tSeq (tAsg te (gName k)) rest D σ H := h _ q
theorem st_setG {R : V → Hp → Prop} (h : Gv te σ H R) (q : ∀ v H', R v H' → rest D (σ.set k (some v)) H') : tSeq (tAsg te (gName k)) rest D σ H := h _ q
theorem st_set1 (h : Pu te σ H v) (q : D.nx (σ.set k (some v)) H) : tAsg te (gName k) D σ H := h _ q
theorem st_setG1 {R : V → Hp → Prop} (h : Gv te σ H R) (q : ∀ v H', R v H' → D.nx (σ.set k (some v)) H') : tAsg te (gName k) D σ H := h _ q
theorem st_ret (h : Pu te σ H v) (q : D.rt v H) : tRet te D σ H := h _ q
theorem st_retG {R : V → Hp → Prop} (h : Gv te σ H R) (q : ∀ v H', R v H' → D.rt v H') : tRet te D σ H := h _ q
theorem st_exprG {R : V → Hp → Prop} (h : Gv te σ H R) (q : ∀ v H', R v H' → rest D σ H') : tSeq (tDrop te) rest D σ H := h _ q
theorem st_exprG1 {R : V → Hp → Prop} (h : Gv te σ H R) (q : ∀ v H', R v H' → D.nx σ H') : tDrop te D σ H := h _ q
theorem st_if {tc : TT} {t u : TS} (h : PuT tc σ H b) (q1 : b = true → t { D with nx := rest D } σ H) (q2 : b = false → u { D with nx := rest D } σ H) : tSeq (tIfS tc t u) rest D σ H := h _ (by
  cases b with
  | true => rw [if_pos rfl]; exact q1 rfl
  | false => rw [if_neg Bool.false_ne_true]; exact q2 rfl)
theorem st_if1 {tc : TT} {t u : TS} (h : PuT tc σ H b) (q1 : b = true → t D σ H) (q2 : b = false → u D σ H) : tIfS tc t u D σ H := h _ (by
  cases b with
  | true => rw [if_pos rfl]; exact q1 rfl
  | false => rw [if_neg Bool.false_ne_true]; exact q2 rfl)
theorem st_ifG {tc : TT} {t u : TS} {R : Bool → Hp → Prop} (h : GvT tc σ H R) (q1 : ∀ H', R true H' → t { D with nx := rest D } σ H') (q2 : ∀ H', R false H' → u { D with nx := rest D } σ H') : tSeq (tIfS tc t u) rest D σ H := h _ fun b H' r => by
  cases b with
  | true => rw [if_pos rfl]; exact q1 H' r
  | false => rw [if_neg Bool.false_ne_true]; exact q2 H' r
theorem st_ifG1 {tc : TT} {t u : TS} {R : Bool → Hp → Prop} (h : GvT tc σ H R) (q1 : ∀ H', R true H' → t D σ H') (q2 : ∀ H', R false H' → u D σ H') : tIfS tc t u D σ H := h _ fun b H' r => by
  cases b with
  | true => rw [if_pos rfl]; exact q1 H' r
  | false => rw [if_neg Bool.false_ne_true]; exact q2 H' r
/-! calls -/
variable {sp : Sp} {E : XK}
theorem pu_call {t : TA} {vs : List V} (h : PuA t σ H vs) (hs : ∀ Q, Q v H → sp (vs ++ []) H Q E) : Pu (tCall sp [] E t) σ H v := fun Q q => h _ (hs Q q)
theorem gv_call {t : TA} {vs : List V} {R : V → Hp → Prop} (h : PuA t σ H vs) (hs : ∀ Q : VK, (∀ v H', R v H' → Q v H') → sp (vs ++ []) H Q E) : Gv (tCall sp [] E t) σ H R := fun Q q => h _ (hs Q q)
theorem gv_callA {t : TA} {R : V → Hp → Prop} {RA : List V → Hp → Prop} (h : GvA t σ H RA) (hs : ∀ vs H1, RA vs H1 → ∀ Q : VK, (∀ v H', R v H' → Q v H') → sp (vs ++ []) H1 Q E) : Gv (tCall sp [] E t) σ H R := fun Q q => h _ fun vs H1 r => hs vs H1 r Q q
theorem ga_nil : GvA tNil σ H (fun vs H' => vs = [] ∧ H' = H) := fun Q q => q _ _ ⟨rfl, rfl⟩
theorem ga_cons {tr : TA} {R1 : V → Hp → Prop} {R2 : V → Hp → List V → Hp → Prop} (h : Gv ta σ H R1) (g : ∀ x H1, R1 x H1 → GvA tr σ H1 (R2 x H1)) :
    GvA (tCons ta tr) σ H (fun vs H' => ∃ x H1 r, vs = x :: r ∧ R1 x H1 ∧ R2 x H1 r H') := fun Q q => h _ fun x H1 r1 => g x H1 r1 _ fun r H' r2 => q _ _ ⟨x, H1, r, rfl, r1, r2⟩
/-! new tuples and lists -/
theorem gv_tup {t : TA} {vs : List V} (h : PuA t σ H vs) (hz : vs.length ≤ sizeLine) : Gv (tTup t) σ H (fun v H' => ∃ p, H p = none ∧ v = .ref p ∧ H' = upd H p (.tup vs)) := fun Q q => h _ ⟨hz, fun p hp => q _ _ ⟨p, hp, rfl, rfl⟩⟩
theorem gv_lst {t : TA} {vs : List V} (h : PuA t σ H vs) (hz : vs.length ≤ sizeLine) : Gv (tLst t) σ H (fun v H' => ∃ p, H p = none ∧ v = .ref p ∧ H' = upd H p (.lst vs)) := fun Q q => h _ ⟨hz, fun p hp => q _ _ ⟨p, hp, rfl, rfl⟩⟩
end
/-! ### frames of the heap -/
theorem Same.upd {H : Hp} {p : Addr} {o : HO} (h : H p = none) : Same H (upd H p o) := fun b u e => by rw [upd_ne (ne_of_none e h)]; exact e
theorem Same.tup {K : PySem.W.Frag} {H H' : Hp} {a : Addr} {xs : List V} (e : Same H H') (h : SqT K H a xs) : SqT K H' a xs := by
  rcases h with (h | ⟨o, h⟩) | h
  · exact .inl (.inl (e _ _ h))
  · exact .inl (.inr ⟨o, e _ _ h⟩)
  · exact .inr h
/-- all is as it was but at one place -/
def SameB (l : Addr) (H H' : Hp) : Prop := ∀ b o, H b = some o → b ≠ l → H' b = some o
theorem Same.b {H H' : Hp} {l : Addr} (e : Same H H') : SameB l H H' := fun b o h _ => e b o h
theorem SameB.refl (l : Addr) (H : Hp) : SameB l H H := fun _ _ h _ => h
theorem SameB.trans {l : Addr} {H H1 H2 : Hp} (a : SameB l H H1) (b : SameB l H1 H2) : SameB l H H2 := fun c o h n => b c o (a c o h n) n
theorem SameB.upd {l : Addr} {H : Hp} {o : HO} : SameB l H (upd H l o) := fun b u e n => by rw [upd_ne n]; exact e
/-! ### defs -/
structure Fn (K : PySem.W.Frag) (mg : Str → Option Value) (x : Str) (st : Stmt) (f : Addr) (fd : FuncData) (ps : List Str) : Prop where
  F : Fun K x x st f fd
  b : Binds K fd ps []
  m : mg x = some (.ref f)
section
variable {X : Cx} {x : Str} {st : Stmt} {f : Addr} {fd : FuncData} {ps : List Str} {sp : Sp} {k j : Nat} {e : Expr} {es : List Expr} {t : TA} {p pos : Pos}
theorem pe_fn (T : Fn X.K X.mg x st f fd ps) (G : FnOk X.prog X.w X.K X.mg X.base CX0 k f fd ps sp) (hr : Room j X.A) (hj : k ≤ j) (ha : PA X (e :: es) t) (hg : Gl X x := by rfl) (hdb : (x == ("__debug__" : Str)) = false := by decide)
    (he : starEach (e :: es) X.env = (false, eval e X.env) :: starEach es X.env := by rfl) (hpl : (backTo pos (starEach es X.env)).any (·.1) = false := by rfl) : PE X (.Call (.Name x p) (e :: es) [] pos) (tCall sp [] E0 t) :=
  pe_call G (hr.mono hj) hg T.m T.F.kp T.b .nil pass0 ha hdb he hpl
/-- a type's name -/
theorem pe_ty {n : Str} {T : String} {pos : Pos} (hm : X.mg n = none) (hv : bootBuiltins n = some (.type T)) (hg : Gl X n := by rfl) (hn : n ≠ "__name__" := by decide) (hd : (n == ("__debug__" : Str)) = false := by decide) : PE X (.Name n pos) (tC (.ty T)) :=
  pe_bltn hg hm hv rfl hn hd
end
/-! ### the forms one uses -/
end L2

set_option linter.all false
namespace L2
/-! ### lowest terms -/
def gS (a b : Int) : Int := if b < 0 then -(Int.gcd a b : Int) else (Int.gcd a b : Int)
theorem fdiv_mul_self {k x : Int} (h : k ≠ 0) : (k * x).fdiv k = x := Int.mul_fdiv_cancel_left x h
theorem gS_ne' {a b : Int} (h : b ≠ 0) : gS a b ≠ 0 := by
  have := Int.gcd_pos_of_ne_zero_right a h
  unfold gS; split <;> omega
/-- what it has -/
theorem low_has {n m : Int} (hm : m ≠ 0) : 0 < m.fdiv (gS n m) ∧ Int.gcd (n.fdiv (gS n m)) (m.fdiv (gS n m)) = 1 ∧ n.fdiv (gS n m) * m = n * m.fdiv (gS n m) := by
  have hp := Int.gcd_pos_of_ne_zero_right n hm
  obtain ⟨x, hx⟩ : gS n m ∣ n := by
    unfold gS; split
    · exact Int.neg_dvd.mpr (Int.gcd_dvd_left n m)
    · exact Int.gcd_dvd_left n m
  obtain ⟨y, hy⟩ : gS n m ∣ m := by
    unfold gS; split
    · exact Int.neg_dvd.mpr (Int.gcd_dvd_right n m)
    · exact Int.gcd_dvd_right n m
  have hg := gS_ne' (a := n) hm
  have e1 : n.fdiv (gS n m) = x := by
    conv => lhs; rw [hx]
    rw [← hx]
    conv => lhs; arg 1; rw [hx]
    exact fdiv_mul_self hg
  have e2 : m.fdiv (gS n m) = y := by
    conv => lhs; arg 1; rw [hy]
    exact fdiv_mul_self hg
  rw [e1, e2]
  have hab : (gS n m).natAbs = Int.gcd n m := by unfold gS; split <;> omega
  have hgcd : Int.gcd x y = 1 := by
    have : Int.gcd n m = Int.gcd (gS n m * x) (gS n m * y) := by rw [← hx, ← hy]
    rw [Int.gcd_mul_left, hab] at this
    have h1 : Int.gcd n m * 1 = Int.gcd n m * Int.gcd x y := by rw [Nat.mul_one]; exact this
    exact (Nat.eq_of_mul_eq_mul_left hp h1).symm
  refine ⟨?_, hgcd, ?_⟩
  · generalize hG : gS n m = G at *
    have hs : (m < 0 → G < 0) ∧ (¬ m < 0 → 0 < G) := by
      constructor
      · intro h
        rw [← hG]; unfold gS; rw [if_pos h]; omega
      · intro h
        rw [← hG]; unfold gS; rw [if_neg h]; omega
    by_cases h : m < 0
    · have h1 := hs.1 h
      by_cases h2 : 0 < y
      · exact h2
      · exfalso
        have := Int.mul_nonneg_of_nonpos_of_nonpos (a := G) (b := y) (by omega) (by omega)
        omega
    · have h1 := hs.2 h
      by_cases h2 : 0 < y
      · exact h2
      · exfalso
        have := Int.mul_nonpos_of_nonneg_of_nonpos (a := G) (b := y) (by omega) (by omega)
        omega
  · generalize hG : gS n m = G at *
    rw [hx, hy]
    grind
theorem low_le {n m : Int} (hm : m ≠ 0) : (n.fdiv (gS n m)).natAbs ≤ n.natAbs ∧ (m.fdiv (gS n m)).natAbs ≤ m.natAbs := by
  have hg := gS_ne' (a := n) hm
  have key : ∀ z, gS n m ∣ z → (z.fdiv (gS n m)).natAbs ≤ z.natAbs := by
    intro z hz
    obtain ⟨x, hx⟩ := hz
    have e : z.fdiv (gS n m) = x := by
      conv => lhs; arg 1; rw [hx]
      exact fdiv_mul_self hg
    rw [e, hx, Int.natAbs_mul]
    have h1 : 1 ≤ (gS n m).natAbs := by omega
    calc x.natAbs = 1 * x.natAbs := (Nat.one_mul _).symm
      _ ≤ (gS n m).natAbs * x.natAbs := Nat.mul_le_mul_right _ h1
  constructor
  · apply key
    unfold gS; split
    · exact Int.neg_dvd.mpr (Int.gcd_dvd_left n m)
    · exact Int.gcd_dvd_left n m
  · apply key
    unfold gS; split
    · exact Int.neg_dvd.mpr (Int.gcd_dvd_right n m)
    · exact Int.gcd_dvd_right n m
end L2

set_option linter.all false
namespace L2
/-! ### points of the plane by three numbers -/
structure Pt3 where
  x : Int
  y : Int
  z : Int
/-- in lowest terms at these homogeneous numbers -/
structure Is3 (A B C : Int) (r : Pt3) : Prop where
  pos : 0 < r.z
  cop : Int.gcd (Int.gcd r.z r.x) r.y = 1
  ex : ∃ d, 0 < d ∧ A = d * r.x ∧ B = d * r.y ∧ C = d * r.z
def Apart (p q : Pt3) : Prop := ¬ (p.x * q.z = q.x * p.z ∧ p.y * q.z = q.y * p.z)
theorem uniq3 {p q : Pt3} (hp : 0 < p.z) (hq : 0 < q.z) (gp : Int.gcd (Int.gcd p.z p.x) p.y = 1) (gq : Int.gcd (Int.gcd q.z q.x) q.y = 1) (h : ¬ Apart p q) : p.x = q.x ∧ p.y = q.y ∧ p.z = q.z := by
  have h' : p.x * q.z = q.x * p.z ∧ p.y * q.z = q.y * p.z := by
    unfold Apart at h; exact Decidable.of_not_not h
  have key : ∀ (a b : Pt3), Int.gcd (Int.gcd a.z a.x) a.y = 1 → a.x * b.z = b.x * a.z → a.y * b.z = b.y * a.z → a.z ∣ b.z := by
    intro a b g h1 h2
    have d1 : a.z ∣ ((Int.gcd a.z a.x : Nat) : Int) * b.z := by
      rw [← Int.dvd_natAbs, Int.natAbs_mul, Int.natAbs_natCast, ← Int.gcd_mul_right]
      exact Int.dvd_coe_gcd ⟨b.z, rfl⟩ ⟨b.x, by rw [h1, Int.mul_comm]⟩
    have d2 : a.z ∣ a.y * b.z := ⟨b.y, by rw [h2, Int.mul_comm]⟩
    have d3 : a.z ∣ ((Int.gcd ((Int.gcd a.z a.x : Nat) : Int) a.y : Nat) : Int) * b.z := by
      rw [← Int.dvd_natAbs, Int.natAbs_mul, Int.natAbs_natCast, ← Int.gcd_mul_right]
      exact Int.dvd_coe_gcd d1 d2
    rw [g] at d3
    simpa using d3
  have z1 := key p q gp h'.1 h'.2
  have z2 := key q p gq h'.1.symm h'.2.symm
  have ez : p.z = q.z := Int.dvd_antisymm (by omega) (by omega) z1 z2
  refine ⟨?_, ?_, ez⟩
  · have := h'.1
    rw [ez] at this
    exact Int.eq_of_mul_eq_mul_right (by omega) this
  · have := h'.2
    rw [ez] at this
    exact Int.eq_of_mul_eq_mul_right (by omega) this
theorem pt_has {a b c : Int} (hc : 0 < c) : let d : Int := Int.gcd (Int.gcd c a) b; Is3 a b c ⟨a.fdiv d, b.fdiv d, c.fdiv d⟩ ∧ 0 < d := by
  intro d
  have p1 : 0 < Int.gcd c a := Int.gcd_pos_of_ne_zero_left a (by omega)
  have p2 : 0 < Int.gcd ((Int.gcd c a : Nat) : Int) b := Int.gcd_pos_of_ne_zero_left b (by omega)
  have hd : 0 < d := by show 0 < ((Int.gcd ((Int.gcd c a : Nat) : Int) b : Nat) : Int); omega
  have dg : d ∣ ((Int.gcd c a : Nat) : Int) := Int.gcd_dvd_left _ _
  obtain ⟨z, hz⟩ : d ∣ c := Int.dvd_trans dg (Int.gcd_dvd_left c a)
  obtain ⟨x, hx⟩ : d ∣ a := Int.dvd_trans dg (Int.gcd_dvd_right c a)
  obtain ⟨y, hy⟩ : d ∣ b := Int.gcd_dvd_right _ _
  have ex : a.fdiv d = x := by
    conv => lhs; arg 1; rw [hx]
    exact fdiv_mul_self (by omega)
  have ey : b.fdiv d = y := by
    conv => lhs; arg 1; rw [hy]
    exact fdiv_mul_self (by omega)
  have ez : c.fdiv d = z := by
    conv => lhs; arg 1; rw [hz]
    exact fdiv_mul_self (by omega)
  rw [ex, ey, ez]
  refine ⟨⟨?_, ?_, d, hd, hx, hy, hz⟩, hd⟩
  · show 0 < z
    by_cases h : 0 < z
    · exact h
    · have := Int.mul_nonpos_of_nonneg_of_nonpos (a := d) (b := z) (by omega) (by omega)
      omega
  · show Int.gcd ((Int.gcd z x : Nat) : Int) y = 1
    have h1 : Int.gcd c a = d.natAbs * Int.gcd z x := by
      conv => lhs; rw [hz, hx]
      exact Int.gcd_mul_left d z x
    have h2 : d.natAbs = d.natAbs * Int.gcd ((Int.gcd z x : Nat) : Int) y := by
      have h3 : ((Int.gcd c a : Nat) : Int) = d * ((Int.gcd z x : Nat) : Int) := by
        rw [h1]
        have : ((d.natAbs : Nat) : Int) = d := by omega
        rw [Int.natCast_mul, this]
      have h4 : Int.gcd ((Int.gcd c a : Nat) : Int) b = d.natAbs * Int.gcd ((Int.gcd z x : Nat) : Int) y := by
        conv => lhs; rw [h3, hy]
        exact Int.gcd_mul_left d _ y
      exact h4
    have h5 : d.natAbs * 1 = d.natAbs * Int.gcd ((Int.gcd z x : Nat) : Int) y := by rw [Nat.mul_one]; exact h2
    exact (Nat.eq_of_mul_eq_mul_left (by omega) h5).symm
end L2

set_option linter.all false
set_option maxRecDepth 100000
set_option maxHeartbeats 4000000
namespace L2
open PySem PySem.Spec PyProof.Rows
section
variable {X : Cx}
def rGetL (K : PySem.W.Frag) : V → V → Hp → VK → Prop := fun x y H Q => ∃ p xs i v, x = .ref p ∧ y = .int i ∧ 0 ≤ i ∧ SqL K H p xs ∧ atI xs i = some v ∧ Q v H
theorem get_list : PGet X (rGetL X.K) := by
  intro pins s σ H x y v u Q I rx ry h
  obtain ⟨p, xs, i, z, rfl, rfl, h0, hq, he, q⟩ := h
  cases rx
  obtain ⟨t, rfl⟩ := ry
  obtain ⟨its, r, pl, hz⟩ := I.list hq
  obtain ⟨j, h1, h2, h3, h4, h5⟩ := atI_get he
  obtain ⟨w, ew, rw'⟩ := r.get h2
  have hn := line63
  have hj : i.toNat = j := by
    rw [seqIndex_of h0 h5] at h1
    exact Option.some.inj h1
  exact wpAny_getItem_list pl.isList h0 (by omega) (by rw [hj]; simpa using ew) ⟨z, H, I, rw', q⟩
end
section
variable {σ : St} {H : Hp} {D : Ends} {rest : TS} {te to ti : TE} {v : V} {p : Addr} {xs : List V} {k i : Int} {j : Nat}
theorem st_put (h : Pu te σ H v) (ho : Pu to σ H (.ref p)) (hi : Pu ti σ H (.int k)) (hp : H p = some (.lst xs)) (hj : ixN xs.length k = some j) (q : rest D σ (upd H p (.lst (xs.set j v)))) : tSeq (tAsg te (gSub to ti rSetL)) rest D σ H :=
  h _ (ho _ (hi _ ⟨p, xs, k, j, rfl, rfl, hp, hj, q⟩))
theorem st_put1 (h : Pu te σ H v) (ho : Pu to σ H (.ref p)) (hi : Pu ti σ H (.int k)) (hp : H p = some (.lst xs)) (hj : ixN xs.length k = some j) (q : D.nx σ (upd H p (.lst (xs.set j v)))) : tAsg te (gSub to ti rSetL) D σ H :=
  h _ (ho _ (hi _ ⟨p, xs, k, j, rfl, rfl, hp, hj, q⟩))
theorem st_augI {K : PySem.W.Frag} {f : Int → Int → Int} {a b : Int} (ho : Pu to σ H (.ref p)) (hi : Pu ti σ H (.int k)) (h0 : 0 ≤ k) (hp : H p = some (.lst xs)) (ha : atI xs k = some (.int a)) (h : Pu te σ H (.int b)) (hj : ixN xs.length k = some j)
    (q : rest D σ (upd H p (.lst (xs.set j (.int (f a b)))))) : tSeq (tAugS to ti te (rGetL K) (ipI f) rSetL) rest D σ H :=
  ho _ (hi _ ⟨p, xs, k, .int a, rfl, rfl, h0, SqL.of hp, ha, h _ ⟨a, b, rfl, rfl, p, xs, k, j, rfl, rfl, hp, hj, q⟩⟩)
theorem st_while {c : TT} {tb : TS} (Pv : St → Hp → Prop) (μ : St → Hp → Nat) (h0 : Pv σ H)
    (hs : ∀ σ H, Pv σ H → ∃ b, PuT c σ H b ∧ (b = true → tb { D with nx := fun σ' H' => Pv σ' H' ∧ μ σ' H' < μ σ H, ct := fun σ' H' => Pv σ' H' ∧ μ σ' H' < μ σ H, bk := rest D } σ H) ∧ (b = false → rest D σ H)) :
    tSeq (tWhile c tb) rest D σ H := by
  refine ⟨fun m σ H => m = μ σ H ∧ Pv σ H, ⟨_, rfl, h0⟩, ?_⟩
  rintro m σ H ⟨rfl, p⟩
  obtain ⟨b, hb, h1, h2⟩ := hs σ H p
  refine hb _ ?_
  cases b with
  | true => rw [if_pos rfl]; exact ⟨_, fun σ' H' ⟨p', l⟩ => ⟨_, l, rfl, p'⟩, h1 rfl⟩
  | false => rw [if_neg Bool.false_ne_true]; exact h2 rfl
/-- for k in range(n) -/
theorem st_range {g : TG} {tb : TS} {ta : TA} {n : Int} (ha : PuA ta σ H [.int n]) (h1 : -(2 ^ 62) ≤ n) (h2 : n < 2 ^ 62) (Pv : Nat → St → Hp → Prop) (h0 : Pv 0 σ H)
    (hs : ∀ (i : Nat) σ H, i < n.toNat → Pv i σ H → g (.int (0 + i)) σ H fun σ2 H2 => tb { D with nx := Pv (i + 1), ct := Pv (i + 1), bk := rest D } σ2 H2) (hd : ∀ σ H, Pv n.toNat σ H → rest D σ H) :
    tSeq (tFor (iRng1 ta) g tb) rest D σ H :=
  ha _ ⟨n, rfl, h1, h2, for_range (D := { D with nx := rest D }) Pv h0 hs hd⟩
theorem st_rangeG {g : TG} {tb : TS} {ta : TA} {R : List V → Hp → Prop} (ha : GvA ta σ H R)
    (hr : ∀ vs H1, R vs H1 → ∃ n : Int, vs = [.int n] ∧ -(2 ^ 62) ≤ n ∧ n < 2 ^ 62 ∧ ∃ Pv : Nat → St → Hp → Prop, Pv 0 σ H1 ∧
    (∀ (i : Nat) σ H, i < n.toNat → Pv i σ H → g (.int (0 + i)) σ H fun σ2 H2 => tb { D with nx := Pv (i + 1), ct := Pv (i + 1), bk := rest D } σ2 H2) ∧ (∀ σ H, Pv n.toNat σ H → rest D σ H)) :
    tSeq (tFor (iRng1 ta) g tb) rest D σ H :=
  ha _ fun vs H1 r => by
    obtain ⟨n, rfl, h1, h2, Pv, h0, hs, hd⟩ := hr vs H1 r
    exact ⟨n, rfl, h1, h2, for_range (D := { D with nx := rest D }) Pv h0 hs hd⟩
/-- for x in xs -/
theorem st_list {K : PySem.W.Frag} {g : TG} {tb : TS} {a : Addr} (ha : Pu te σ H (.ref a)) (Pv : Nat → St → Hp → Prop) (h0 : Pv 0 σ H) (hl : ∀ i σ H, i ≤ xs.length → Pv i σ H → SqL K H a xs)
    (hs : ∀ (i : Nat) x σ H, xs[i]? = some x → Pv i σ H → g x σ H fun σ2 H2 => tb { D with nx := Pv (i + 1), ct := Pv (i + 1), bk := rest D } σ2 H2) (hd : ∀ σ H, Pv xs.length σ H → rest D σ H) :
    tSeq (tFor (iList K te) g tb) rest D σ H :=
  ha _ ⟨a, rfl, ⟨xs, hl 0 σ H (Nat.zero_le _) h0⟩, for_list (D := { D with nx := rest D }) Pv h0 hl hs hd⟩
end
theorem kit_int_bool {K : PySem.W.Frag} : PySem.W.kitOne K (.type "int") (.type "bool") = some false := by
  unfold PySem.W.kitOne
  rw [if_neg (by decide)]
  show (if PySem.W.kitMeta "bool" = true then (PySem.fastBuiltinMro "int").map (·.contains (Value.type "bool")) else none) = some false
  decide +kernel
/-- a tuple of ints that is tracked -/
def TupT (H : Hp) (v : V) (ns : List Int) : Prop := ∃ a, v = .ref a ∧ H a = some (.tup (ns.map V.int))
theorem TupT.same {H H' : Hp} {v : V} {ns : List Int} (h : TupT H v ns) (e : Same H H') : TupT H' v ns := by
  obtain ⟨a, rfl, h⟩ := h
  exact ⟨a, rfl, e _ _ h⟩
theorem TupT.of {H : Hp} {a : Addr} {ns : List Int} (h : H a = some (.tup (ns.map V.int))) : TupT H (.ref a) ns := ⟨a, rfl, h⟩
theorem Bd.small {i : Int} {n : Nat} (h : i.natAbs < 2 ^ 64 := by decide) (e : 64 ≤ n := by decide) : Bd n i := Bd.mono (m := 64) h e
/-! ### no cell in a block -/
theorem noCells {names : List (Str × NameKind)} {cl : List (Str × Addr)} (h : (names.all fun p => p.2 != .cell && p.2 != .free) = true) : ∀ y, (names.lookup y = some .cell ∨ names.lookup y = some .free) → ∃ c, cl.lookup y = some c := by
  intro y hy
  exfalso
  have key : ∀ (l : List (Str × NameKind)) (k : NameKind), l.lookup y = some k → ∃ p ∈ l, p.2 = k := by
    intro l k
    induction l with
    | nil => intro e; cases e
    | cons p r ih =>
      intro e
      rw [List.lookup_cons] at e
      split at e
      · exact ⟨p, List.mem_cons_self, Option.some.inj e⟩
      · obtain ⟨q, hq, eq⟩ := ih e
        exact ⟨q, List.mem_cons_of_mem _ hq, eq⟩
  rw [List.all_eq_true] at h
  rcases hy with e | e
  · obtain ⟨p, hp, eq⟩ := key _ _ e
    have := h p hp
    rw [eq] at this
    exact absurd this (by decide)
  · obtain ⟨p, hp, eq⟩ := key _ _ e
    have := h p hp
    rw [eq] at this
    exact absurd this (by decide)
/-! ### the greatest common divisor -/
theorem gcd_step {x y : Int} (h1 : 0 ≤ x) (h2 : 0 ≤ y) : Int.gcd y (x.fmod y) = Int.gcd x y := by
  rw [Int.fmod_eq_emod_of_nonneg _ h2]
  obtain ⟨m, rfl⟩ := Int.eq_ofNat_of_zero_le h1
  obtain ⟨n, rfl⟩ := Int.eq_ofNat_of_zero_le h2
  rw [← Int.natCast_emod]
  show Nat.gcd n (m % n) = Nat.gcd m n
  rw [Nat.gcd_comm, ← Nat.gcd_rec, Nat.gcd_comm]
theorem fmod_lt {x y : Int} (h2 : 0 < y) : 0 ≤ x.fmod y ∧ x.fmod y < y := by
  rw [Int.fmod_eq_emod_of_nonneg _ (Int.le_of_lt h2)]
  exact ⟨Int.emod_nonneg _ (by omega), Int.emod_lt_of_pos _ h2⟩
theorem gcd_zero (x : Int) (h : 0 ≤ x) : ((Int.gcd x 0 : Nat) : Int) = x := by
  rw [Int.gcd_zero_right]; omega
theorem gcd_pos {a b : Int} (h : b ≠ 0) : 0 < Int.gcd a b := Int.gcd_pos_of_ne_zero_right a h
theorem Bd.gcd_right {n : Nat} {a b : Int} (hb : b ≠ 0) (h : Bd n b) : Bd n (Int.gcd a b : Int) := by
  refine h.le ?_
  exact Nat.le_of_dvd (by omega) (Int.gcd_dvd_natAbs_right a b)
theorem gS_ne {a b : Int} (h : b ≠ 0) : gS a b ≠ 0 := by
  have := gcd_pos (a := a) h
  unfold gS; split <;> omega
theorem gS_bd {n : Nat} {a b : Int} (h : b ≠ 0) (hb : Bd n b) : Bd n (gS a b) := by
  have := Bd.gcd_right (a := a) h hb
  unfold gS; split
  · exact this.neg
  · exact this
/-! ### more statements -/
section
variable {σ : St} {H : Hp} {D : Ends} {rest : TS} {te : TE} {b : Bool} {k : Nat} {v0 : V}
theorem st_ifN {tc : TT} {t : TS} (h : PuT tc σ H b) (q1 : b = true → t { D with nx := rest D } σ H) (q2 : b = false → rest D σ H) : tSeq (tIfS tc t tNext) rest D σ H := st_if h q1 q2
theorem st_ifNG {tc : TT} {t : TS} {R : Bool → Hp → Prop} (h : GvT tc σ H R) (q1 : ∀ H', R true H' → t { D with nx := rest D } σ H') (q2 : ∀ H', R false H' → rest D σ H') : tSeq (tIfS tc t tNext) rest D σ H := st_ifG h q1 q2
theorem st_ifN1 {tc : TT} {t : TS} (h : PuT tc σ H b) (q1 : b = true → t D σ H) (q2 : b = false → D.nx σ H) : tIfS tc t tNext D σ H := st_if1 h q1 q2
theorem st_ifNG1 {tc : TT} {t : TS} {R : Bool → Hp → Prop} (h : GvT tc σ H R) (q1 : ∀ H', R true H' → t D σ H') (q2 : ∀ H', R false H' → D.nx σ H') : tIfS tc t tNext D σ H := st_ifG1 h q1 q2
theorem st_ifSet {tc : TT} {R : V → Hp → Prop} (hc : PuT tc σ H b) (he : b = true → Gv te σ H R) (h0 : σ.set k (some v0) = σ) (r0 : b = false → R v0 H) (q : ∀ v H', R v H' → rest D (σ.set k (some v)) H') :
    tSeq (tIfS tc (tAsg te (gName k)) tNext) rest D σ H := by
  refine st_if hc (fun e => st_setG1 (he e) q) fun e => ?_
  have := q v0 H (r0 e)
  rw [h0] at this
  exact this
end
section
variable {σ : St} {H : Hp} {D : Ends} {rest : TS} {te to : TE} {l : Addr} {xs : List V} {K : PySem.W.Frag}
theorem st_app1 {R : V → Hp → Prop} (ho : Pu to σ H (.ref l)) (hl : H l = some (.lst xs)) (he : Gv te σ H R) (q : ∀ v H', R v H' → ∃ ys, H' l = some (.lst ys) ∧ ys.length < sizeLine ∧ D.nx σ (upd H' l (.lst (ys ++ [v])))) :
    tDrop (tBM K "list" rAppend to (tCons te tNil)) D σ H :=
  ho _ ⟨.inl ⟨rfl, _, SqL.of hl⟩, he _ fun v H' r => by
    obtain ⟨ys, h1, h2, h3⟩ := q v H' r
    exact ⟨l, ys, v, rfl, rfl, h1, h2, h3⟩⟩
end
/-! ### comprehensions by what they give -/
section
variable {σ : St} {H : Hp} {te tl : TE} {fr : St → St} {k : Nat} {K : PySem.W.Frag}
/-- over a tuple, the element's value hangs on the item alone -/
theorem gv_compP {a : Addr} {xs : List V} (f : V → V) (hl : Pu tl σ H (.ref a)) (ha : SqT K H a xs) (hz : xs.length ≤ 1000) (hk : ∀ x, KeepS (fr σ) ((fr σ).set k (some x)))
    (hs : ∀ x ∈ xs, ∀ H', Same H H' → Pu te ((fr σ).set k (some x)) H' (f x)) : Gv (tComp (iTup K tl) fr (gName k) te) σ H (fun v H' => ∃ D, H D = none ∧ v = .ref D ∧ H' = upd H D (.lst (xs.map f))) := by
  intro Q g
  refine hl _ ⟨a, rfl, ⟨xs, ha⟩, fun D hD => ?_⟩
  refine ⟨fun i m ys H' => m = xs.length - i ∧ i ≤ xs.length ∧ ys = (xs.take i).map f ∧ H' = upd H D (.lst ys), ⟨_, rfl, Nat.zero_le _, rfl, rfl⟩, ?_⟩
  rintro i m ys H' ⟨rfl, hi, rfl, rfl⟩
  have s' : Same H (upd H D (.lst ((xs.take i).map f))) := Same.upd hD
  by_cases hlt : i < xs.length
  · refine .inr ⟨⟨xs, xs[i], s'.tup ha, by simp [hlt]⟩, ?_, fun x H3 y => ?_⟩
    · rw [List.length_map, List.length_take]; exact small1000 (by omega)
    obtain ⟨e, y⟩ := y
    subst e
    have ex := y xs (s'.tup ha)
    refine ⟨hk x, hs x (List.mem_of_getElem? ex) _ s' _ ⟨upd_same, xs.length - (i + 1), by omega, rfl, hlt, ?_, ?_⟩⟩
    · rw [List.take_succ, ex]; simp
    · rw [upd_upd]
  · have e : i = xs.length := by omega
    subst e
    refine .inl ⟨⟨xs, s'.tup ha, Nat.le_refl _⟩, g _ _ ⟨D, hD, rfl, by rw [List.take_length]⟩⟩
/-- over a range, by what holds between two turns -/
theorem gv_compR {ta : TA} {n : Int} (Pv : Addr → Nat → List V → Hp → Prop) (ha : PuA ta σ H [.int n]) (h1 : -(2 ^ 62) ≤ n) (h2 : n < 2 ^ 62) (hk : ∀ x, KeepS (fr σ) ((fr σ).set k (some x)))
    (h0 : ∀ D, H D = none → Pv D 0 [] (upd H D (.lst [])))
    (hs : ∀ D (i : Nat) ys H', H D = none → i < n.toNat → Pv D i ys H' → ys.length < sizeLine ∧ Gv te ((fr σ).set k (some (.int (0 + i)))) H' (fun y H4 => H4 D = some (.lst ys) ∧ Pv D (i + 1) (ys ++ [y]) (upd H4 D (.lst (ys ++ [y]))))) :
    Gv (tComp (iRng1 ta) fr (gName k) te) σ H (fun v H' => ∃ D ys, H D = none ∧ v = .ref D ∧ Pv D n.toNat ys H') := by
  intro Q g
  refine ha _ ⟨n, rfl, h1, h2, fun D hD => ?_⟩
  refine ⟨fun i m ys H' => m = n.toNat - i ∧ i ≤ n.toNat ∧ Pv D i ys H', ⟨_, rfl, Nat.zero_le _, h0 D hD⟩, ?_⟩
  rintro i m ys H' ⟨rfl, hi, p⟩
  by_cases hlt : i < n.toNat
  · obtain ⟨z1, z2⟩ := hs D i ys H' hD hlt p
    refine .inr ⟨hlt, z1, fun x H3 y => ?_⟩
    obtain ⟨e, y⟩ := y
    subst e y
    exact ⟨hk _, z2 _ fun v H4 r => ⟨r.1, n.toNat - (i + 1), by omega, rfl, hlt, r.2⟩⟩
  · have e : i = n.toNat := by omega
    subst e
    exact .inl ⟨Nat.le_refl _, g _ _ ⟨D, ys, hD, rfl, p⟩⟩
/-- all(..) of a list of bools, laid by the argument -/
theorem gv_all {R : V → Hp → Prop} (bs : List Bool) (h : Gv te σ H R) (f : ∀ v H', R v H' → ∃ p : Addr, v = .ref p ∧ SqL K H' p (bs.map V.bl)) :
    Gv (tCB (fun xs H Q => ∃ (p : Addr) (bs : List Bool), xs = [.ref p] ∧ SqL K H p (bs.map V.bl) ∧ Q (.bl (bs.all id)) H) (tCons te tNil)) σ H (fun v H' => (∃ p : Addr, R (.ref p) H') ∧ v = .bl (bs.all id)) := by
  intro Q g
  refine h _ fun v H' r => ?_
  obtain ⟨p, rfl, hp⟩ := f v H' r
  exact ⟨p, bs, rfl, hp, g _ _ ⟨⟨p, r⟩, rfl⟩⟩
theorem gv_andG {ta tb : TE} {R R' : V → Hp → Prop} (h : Gv ta σ H R) (f : ∀ v H', R v H' → ∃ c, v = .bl c ∧ (c = true → Gv tb σ H' R') ∧ (c = false → R' (.bl false) H')) : Gv (tAndV ta tb) σ H R' := by
  intro Q g
  refine h _ fun v H' r => ?_
  obtain ⟨c, rfl, h1, h2⟩ := f v H' r
  refine ⟨c, rfl, ?_⟩
  cases c with
  | true => rw [if_pos rfl]; exact h1 rfl Q g
  | false => rw [if_neg Bool.false_ne_true]; exact g _ _ (h2 rfl)
end
/-! ### tuples in lists -/
/-! ### the hand of a law -/
def HandAt (H : Hp) (hd sc : Addr) : Prop := ∃ (ns : List Int) (i b c p q : Int), H hd = some (.lst [.ref sc, .int i, .int b, .int c, .int p, .int q]) ∧ H sc = some (.lst (ns.map V.int)) ∧ 0 ≤ i
theorem HandAt.ne {H : Hp} {hd sc : Addr} {ns : List Int} {i b c p q : Int} (h1 : H hd = some (.lst [.ref sc, .int i, .int b, .int c, .int p, .int q])) (h2 : H sc = some (.lst (ns.map V.int))) : sc ≠ hd := by
  intro e
  subst e
  rw [h1] at h2
  cases ns with
  | nil => simp at h2
  | cons n r => simp at h2
theorem HandAt.same {H H' : Hp} {hd sc : Addr} (h : HandAt H hd sc) (e : Same H H') : HandAt H' hd sc := by
  obtain ⟨ns, i, b, c, p, q, h1, h2, h0⟩ := h
  exact ⟨ns, i, b, c, p, q, e _ _ h1, e _ _ h2, h0⟩
theorem HandAt.ls {H : Hp} {hd sc : Addr} (h : HandAt H hd sc) : ∃ ys, H hd = some (.lst ys) := by
  obtain ⟨ns, i, b, c, p, q, h1, _⟩ := h
  exact ⟨_, h1⟩
theorem HandAt.fresh {H : Hp} {hd sc l : Addr} (h : HandAt H hd sc) (hl : H l = none) : l ≠ hd ∧ l ≠ sc := by
  obtain ⟨ns, i, b, c, p, q, h1, h2, _⟩ := h
  exact ⟨Ne.symm (ne_of_none h1 hl), Ne.symm (ne_of_none h2 hl)⟩
theorem HandAt.upd {H : Hp} {hd sc l : Addr} {o : HO} (h : HandAt H hd sc) (n : l ≠ hd ∧ l ≠ sc) : HandAt (upd H l o) hd sc := by
  obtain ⟨ns, i, b, c, p, q, h1, h2, h0⟩ := h
  exact ⟨ns, i, b, c, p, q, by rw [upd_ne (Ne.symm n.1)]; exact h1, by rw [upd_ne (Ne.symm n.2)]; exact h2, h0⟩
end L2

set_option linter.all false
set_option maxRecDepth 100000
set_option maxHeartbeats 4000000
namespace L2
open PySem PySem.Spec PyProof.Rows
/-- a point laid as a tuple; how long its numbers are -/
def AtP (H : Hp) (v : V) (p : Pt3) : Prop := TupT H v [p.x, p.y, p.z]
/-! ### sums of fractions -/
/-! ### a comprehension that catches one name -/
theorem lookup_mem {names : List (Str × NameKind)} {y : Str} {k : NameKind} (e : names.lookup y = some k) : (y, k) ∈ names := by
  induction names with
  | nil => cases e
  | cons p r ih =>
    rw [List.lookup_cons] at e
    split at e
    · rename_i h
      have h' : y = p.1 := eq_of_beq h
      have e' : p.2 = k := Option.some.inj e
      rw [h', ← e']
      exact List.mem_cons_self
    · exact List.mem_cons_of_mem _ (ih e)
theorem ix_listK {X : Cx} {K : PySem.W.Frag} (h : X.K = K) : IxR X (rIxL K) := by
  subst h; exact ix_list
/-! ### lists of points -/
end L2

set_option linter.all false
namespace L2
/-! ### what two sides share -/
theorem Pt3.ext' {p q : Pt3} (h1 : p.x = q.x) (h2 : p.y = q.y) (h3 : p.z = q.z) : p = q := by
  cases p; cases q; simp only at h1 h2 h3; subst h1 h2 h3; rfl
structure Lp (p : Pt3) : Prop where
  pos : 0 < p.z
  cop : Int.gcd (Int.gcd p.z p.x) p.y = 1
theorem Lp.eq {p q : Pt3} (hp : Lp p) (hq : Lp q) (h : ¬ Apart p q) : p = q := by
  obtain ⟨h1, h2, h3⟩ := uniq3 hp.pos hq.pos hp.cop hq.cop h
  exact Pt3.ext' h1 h2 h3
def gS3 (a b c : Int) : Int := if c < 0 then -(Int.gcd (Int.gcd a b) c : Int) else (Int.gcd (Int.gcd a b) c : Int)
def pbF (a b c : Int) : Pt3 := ⟨a.fdiv (gS3 a b c), b.fdiv (gS3 a b c), c.fdiv (gS3 a b c)⟩
theorem gS3_ne {a b c : Int} (h : c ≠ 0) : gS3 a b c ≠ 0 := by
  have := Int.gcd_pos_of_ne_zero_right ((Int.gcd a b : Nat) : Int) h
  unfold gS3; split <;> omega
theorem gcd3_rot (x y z : Int) : Int.gcd ((Int.gcd x y : Nat) : Int) z = Int.gcd ((Int.gcd z x : Nat) : Int) y := by
  rw [Int.gcd_comm, ← Int.gcd_assoc]
theorem pb_has {a b c : Int} (h : c ≠ 0) : Lp (pbF a b c) ∧ ∃ k, k ≠ 0 ∧ a = k * (pbF a b c).x ∧ b = k * (pbF a b c).y ∧ c = k * (pbF a b c).z := by
  have hg := gS3_ne (a := a) (b := b) h
  have hp := Int.gcd_pos_of_ne_zero_right ((Int.gcd a b : Nat) : Int) h
  have key : ∀ z, ((Int.gcd ((Int.gcd a b : Nat) : Int) c : Nat) : Int) ∣ z → z = gS3 a b c * z.fdiv (gS3 a b c) := by
    intro z hz
    have : gS3 a b c ∣ z := by
      unfold gS3; split
      · exact Int.neg_dvd.mpr hz
      · exact hz
    obtain ⟨w, hw⟩ := this
    have e : z.fdiv (gS3 a b c) = w := by
      conv => lhs; arg 1; rw [hw]
      exact fdiv_mul_self hg
    rw [e]; exact hw
  have dg : ((Int.gcd ((Int.gcd a b : Nat) : Int) c : Nat) : Int) ∣ ((Int.gcd a b : Nat) : Int) := Int.gcd_dvd_left _ _
  have ea := key a (Int.dvd_trans dg (Int.gcd_dvd_left a b))
  have eb := key b (Int.dvd_trans dg (Int.gcd_dvd_right a b))
  have ec := key c (Int.gcd_dvd_right _ _)
  refine ⟨⟨?_, ?_⟩, gS3 a b c, hg, ea, eb, ec⟩
  · show 0 < c.fdiv (gS3 a b c)
    by_cases hc : c < 0
    · have hG : gS3 a b c < 0 := by unfold gS3; rw [if_pos hc]; omega
      by_cases h2 : 0 < c.fdiv (gS3 a b c)
      · exact h2
      · have := Int.mul_nonneg_of_nonpos_of_nonpos (a := gS3 a b c) (b := c.fdiv (gS3 a b c)) (by omega) (by omega)
        omega
    · have hG : 0 < gS3 a b c := by unfold gS3; rw [if_neg hc]; omega
      by_cases h2 : 0 < c.fdiv (gS3 a b c)
      · exact h2
      · have := Int.mul_nonpos_of_nonneg_of_nonpos (a := gS3 a b c) (b := c.fdiv (gS3 a b c)) (by omega) (by omega)
        omega
  · show Int.gcd ((Int.gcd (c.fdiv (gS3 a b c)) (a.fdiv (gS3 a b c)) : Nat) : Int) (b.fdiv (gS3 a b c)) = 1
    rw [← gcd3_rot]
    generalize hx : a.fdiv (gS3 a b c) = x at *
    generalize hy : b.fdiv (gS3 a b c) = y at *
    generalize hz : c.fdiv (gS3 a b c) = z at *
    have hab : (gS3 a b c).natAbs = Int.gcd ((Int.gcd a b : Nat) : Int) c := by unfold gS3; split <;> omega
    generalize gS3 a b c = G at *
    have h1 : Int.gcd a b = G.natAbs * Int.gcd x y := by
      conv => lhs; rw [ea, eb]
      exact Int.gcd_mul_left G x y
    have h2 : Int.gcd ((Int.gcd a b : Nat) : Int) c = G.natAbs * Int.gcd ((Int.gcd x y : Nat) : Int) z := by
      have e1 : Int.gcd ((Int.gcd a b : Nat) : Int) c = Int.gcd (G * ((Int.gcd x y : Nat) : Int)) (G * z) := by
        rw [← ec]
        unfold Int.gcd
        rw [Int.natAbs_mul, Int.natAbs_natCast, Int.natAbs_natCast]
        congr 1
      rw [e1, Int.gcd_mul_left]
    rw [← hab] at h2
    have h5 : G.natAbs * 1 = G.natAbs * Int.gcd ((Int.gcd x y : Nat) : Int) z := by rw [Nat.mul_one]; exact h2
    exact (Nat.eq_of_mul_eq_mul_left (by omega) h5).symm
/-! ### the order of points -/
/-! ### on one line -/
end L2

set_option linter.all false
set_option maxRecDepth 100000
set_option maxHeartbeats 4000000
namespace L2
open PySem PySem.Spec PyProof.Rows
/-! ### tuples of points -/
section
variable {σ : St} {H : Hp} {ta tb te : TE} {K : PySem.W.Frag} {x y : V} {b : Bool} {D : Ends} {rest : TS}
theorem pu_ifE {tc : TT} (h : PuT tc σ H b) (h1 : b = true → Pu ta σ H x) (h2 : b = false → Pu tb σ H x) : Pu (tIf tc ta tb) σ H x := fun Q q => h _ (by
  cases b with
  | true => rw [if_pos rfl]; exact h1 rfl Q q
  | false => rw [if_neg Bool.false_ne_true]; exact h2 rfl Q q)
theorem st_tupl {g : TG} {tb : TS} {a : Addr} {xs : List V} (ha : Pu te σ H (.ref a)) (Pv : Nat → St → Hp → Prop) (h0 : Pv 0 σ H) (hl : ∀ i σ H, i ≤ xs.length → Pv i σ H → SqT K H a xs)
    (hs : ∀ (i : Nat) x σ H, xs[i]? = some x → Pv i σ H → g x σ H fun σ2 H2 => tb { D with nx := Pv (i + 1), ct := Pv (i + 1), bk := rest D } σ2 H2) (hd : ∀ σ H, Pv xs.length σ H → rest D σ H) :
    tSeq (tFor (iTup K te) g tb) rest D σ H :=
  ha _ ⟨a, rfl, ⟨xs, hl 0 σ H (Nat.zero_le _) h0⟩, for_tup (D := { D with nx := rest D }) Pv h0 hl hs hd⟩
/-- all([is_whole(part) for part in p]) of ints -/
theorem gv_allTrue {tl : TE} {sp : Sp} {ns : List Int} {v : V} (hl : Pu tl σ H v) (hv : TupT H v ns) (hz : ns.length ≤ 1000) (hs : ∀ (n : Int) H' Q, Q (.bl true) H' → sp [.int n] H' Q E0) :
    Gv (tCB (fun xs H Q => ∃ (p : Addr) (bs : List Bool), xs = [.ref p] ∧ SqL K H p (bs.map V.bl) ∧ Q (.bl (bs.all id)) H) (tCons (tComp (iTup K tl) (fun _ => [none]) (gName 0) (tCall sp [] E0 (tCons (tVar 0) tNil))) tNil)) σ H (fun v H' => v = .bl true ∧ Same H H') := by
  obtain ⟨a, rfl, ha⟩ := hv
  refine (gv_all (List.replicate ns.length true) (gv_compP (fun _ => .bl true) hl (SqT.of ha) (by rw [List.length_map]; exact hz) (fun _ => KeepS.none1) ?_) ?_).imp ?_
  · intro x hx H' _
    obtain ⟨n, _, rfl⟩ := List.mem_map.mp hx
    exact pu_call (pa_c (pu_v rfl) pa_n) (fun Q q => hs n H' Q q)
  · rintro v H' ⟨D, hD, rfl, rfl⟩
    exact ⟨D, rfl, SqL.of (by rw [upd_same, List.map_replicate, List.map_map]; congr 2; exact List.map_const' ..)⟩
  · rintro v H' ⟨⟨p, D, hD, e1, rfl⟩, rfl⟩
    exact ⟨by simp, Same.upd hD⟩
end
section
variable {σ : St} {H : Hp} {t : TA} {RA : List V → Hp → Prop} {R : V → Hp → Prop}
theorem gv_tupA (h : GvA t σ H RA) (f : ∀ vs H1, RA vs H1 → vs.length ≤ sizeLine ∧ ∀ p, H1 p = none → R (.ref p) (upd H1 p (.tup vs))) : Gv (tTup t) σ H R := fun Q q => h _ fun vs H1 r => ⟨(f vs H1 r).1, fun p hp => q _ _ ((f vs H1 r).2 p hp)⟩
theorem gv_lstA (h : GvA t σ H RA) (f : ∀ vs H1, RA vs H1 → vs.length ≤ sizeLine ∧ ∀ p, H1 p = none → R (.ref p) (upd H1 p (.lst vs))) : Gv (tLst t) σ H R := fun Q q => h _ fun vs H1 r => ⟨(f vs H1 r).1, fun p hp => q _ _ ((f vs H1 r).2 p hp)⟩
end
theorem pu_cast {t : TE} {σ : St} {H : Hp} {v w : V} (h : Pu t σ H v) (e : v = w) : Pu t σ H w := by rw [← e]; exact h
theorem st_notTru {σ : St} {H : Hp} {D : Ends} {rest t : TS} {te : TE} {R : Hp → Prop} (h : Gv te σ H (fun v H' => v = .bl true ∧ R H')) (q : ∀ H', R H' → rest D σ H') : tSeq (tIfS (tNot (tB te)) t tNext) rest D σ H :=
  st_ifNG (R := fun b H' => b = false ∧ R H') (fun Q f => h _ fun v H' r => ⟨true, r.1, f _ _ ⟨rfl, r.2⟩⟩) (fun H' r => by cases r.1) (fun H' r => q H' r.2)
theorem GvT.imp {t : TT} {σ : St} {H : Hp} {R R' : Bool → Hp → Prop} (h : GvT t σ H R) (f : ∀ v H', R v H' → R' v H') : GvT t σ H R' := fun Q q => h Q fun v H' r => q v H' (f v H' r)
/-! ### sizes of what is told -/
end L2

set_option linter.all false
namespace L2
/-! ### just what is shared -/
end L2

set_option linter.all false
set_option maxRecDepth 100000
set_option maxHeartbeats 4000000
namespace L2
open PySem PySem.Spec PyProof.Rows
/-! ### zip -/
/-! ### the invariant behind a turn of several objects -/
/-! ### zip walked -/
/-! ### zip made -/
end L2

set_option linter.all false
set_option maxRecDepth 100000
set_option maxHeartbeats 4000000
namespace L2
open PySem PySem.Spec PyProof.Rows
/-! ### how far a point lies, how long its bottom is -/
/-! ### more readings -/
/-! ### lists of sides -/
end L2

set_option linter.all false
namespace L2
/-! ### one place, one tuple -/
theorem one_place {p r : Pt3} {k d a b c : Int} (lp : Lp p) (lr : Lp r) (hk : k ≠ 0) (hd : d ≠ 0) (a1 : a = k * p.x) (b1 : b = k * p.y) (c1 : c = k * p.z) (a2 : a = d * r.x) (b2 : b = d * r.y) (c2 : c = d * r.z) : p = r := by
  refine lp.eq lr fun ap => ap ⟨?_, ?_⟩
  · have : (k * d) * (p.x * r.z) = (k * d) * (r.x * p.z) := by
      have h1 : (k * d) * (p.x * r.z) = (k * p.x) * (d * r.z) := by grind
      have h2 : (k * d) * (r.x * p.z) = (d * r.x) * (k * p.z) := by grind
      rw [h1, h2, ← a1, ← c1, ← a2, ← c2]
    exact Int.eq_of_mul_eq_mul_left (Int.mul_ne_zero hk hd) this
  · have : (k * d) * (p.y * r.z) = (k * d) * (r.y * p.z) := by
      have h1 : (k * d) * (p.y * r.z) = (k * p.y) * (d * r.z) := by grind
      have h2 : (k * d) * (r.y * p.z) = (d * r.y) * (k * p.z) := by grind
      rw [h1, h2, ← b1, ← c1, ← b2, ← c2]
    exact Int.eq_of_mul_eq_mul_left (Int.mul_ne_zero hk hd) this
theorem pb_is3 {a b c : Int} {r : Pt3} (hc : c ≠ 0) (h : Is3 a b c r) : pbF a b c = r := by
  obtain ⟨lp, k, hk, e1, e2, e3⟩ := pb_has (a := a) (b := b) hc
  obtain ⟨d, hd, f1, f2, f3⟩ := h.ex
  exact one_place lp ⟨h.pos, h.cop⟩ hk (by omega) e1 e2 e3 f1 f2 f3
end L2

set_option linter.all false
namespace L2
end L2

set_option linter.all false
set_option maxRecDepth 100000
set_option maxHeartbeats 4000000
namespace L2
open PySem PySem.Spec PyProof.Rows
/-! ### exceptions: how one lies behind a call -/
section
variable {P : Program} {w : World} {H H' : Hp} {h h' : Heap} {a : Addr} {o : HO}
theorem ObjOk.some (x : ObjOk P w H h a o) : ∃ u, h.get? a = some u := by
  cases o with
  | lst xs => obtain ⟨_, _, _, _, e⟩ := x; exact ⟨_, e⟩
  | tup xs => obtain ⟨_, _, _, o, e, _⟩ := x; exact ⟨_, e⟩
  | dK kvs => obtain ⟨_, _, _, _, o, _, _, e, _⟩ := x; exact ⟨_, e⟩
  | dT kvs => obtain ⟨_, _, _, _, o, _, _, e, _⟩ := x; exact ⟨_, e⟩
  | set S n => obtain ⟨o, _, _, _, e, _⟩ := x; exact ⟨_, e⟩
  | ins C dx fs => obtain ⟨_, _, _, e, _⟩ := x; exact ⟨_, e⟩
  | own y => exact x
  | xd fs => obtain ⟨_, ⟨_, _, _, e, _⟩, _⟩ := x; exact ⟨_, e⟩
  | rng lo hi => obtain ⟨_, _, _, e⟩ := x; exact ⟨_, e⟩
  | frz ob u => obtain ⟨e, _⟩ := x; exact ⟨_, e⟩
  | tbl ps => exact ⟨_, (show h.get? a = some _ from x)⟩
  | met f y => exact ⟨_, (show h.get? a = some _ from x)⟩
  | ext φ => obtain ⟨_, e, _⟩ := x; exact e
end
/-- an object of this class stands there -/
def isOf (a : Addr) (cls : Value) : Heap → Prop := fun h => ∃ o, h.get? a = some o ∧ o.cls = cls
/-- the ground B holds all that was there but the frames; the exception flies over it -/
structure Lay (P : Program) (w : World) (outer : List Env) (H H1 : Hp) (s : Shared) (ea : Addr) (B h : Heap) : Prop where
  hok : HOk P w H1 B
  new : H1 ea = none
  keep : ∀ b o, s.heap.get? b = some o → H b = none → b ∉ frs outer → B.get? b = some o
  slot : ∀ b o, s.heap.get? b = some o → H b = none → b ∈ frs outer → ∃ sl, h.get? b = some { o with slots := sl }
  there : ∀ b o, s.heap.get? b = some o → b ∉ frs outer → ∃ o', B.get? b = some o'
  free : ∀ b o, s.heap.get? b = some o → H b = none → H1 b = none
  tups : ∀ b xs, H b = some (.tup xs) → H1 b = some (.tup xs)
  frzs : ∀ b o u, H b = some (.frz o u) → H1 b = some (.frz o u)
  tbls : ∀ b ps, H b = some (.tbl ps) → ∃ more, H1 b = some (.tbl (ps ++ more))
def CXE (P : Program) (w : World) : CXT := fun outer H s E e s' =>
  ∃ (ea t : Addr) (H1 : Hp) (cls : Value) (B : Heap), e = .ref ea ∧ s'.os = s.os ∧ AllBare s'.gens ∧ E cls none H1 ∧ Heap.FlyingW B outer ea cls (.ref t) s'.heap ∧ Lay P w outer H H1 s ea B s'.heap
theorem passE {P : Program} {w : World} {X : Cx} : Passes (CXE P w) X E0 := fun _ _ _ _ _ _ _ ⟨_, _, _, _, _, _, _, _, e, _⟩ => e.elim
/-! ### own classes of exceptions: each straight under one that is straight under ValueError -/
def veB : List Value := [.type "ValueError", .type "Exception", .type "BaseException", .type "object"]
def noInit (K : PySem.W.Frag) (N : Addr) : Bool := PySem.W.nsOkIn K N && (match PySem.W.nsIn K N "__init__" with | some none => true | _ => false)
def exK (K : PySem.W.Frag) (C : Addr) : Bool := match K.lookup C with
  | some ⟨.type "type", _, .cls cd, sl⟩ => (match cd.mro, sl.toList with
    | [.ref C', .ref D, .type "ValueError", .type "Exception", .type "BaseException", .type "object"], [_, _, _, _, some (.builtin "ValueError.__new__"), _] => C' == C && !cd.hasDel && noInit K cd.ns && (match K.lookup D with
      | some ⟨_, _, .cls cd2, _⟩ => noInit K cd2.ns
      | _ => false)
    | _, _ => false)
  | _ => false
theorem noInit_ns {K : PySem.W.Frag} {h : Heap} {N : Addr} (X : K.In h) (e : noInit K N = true) : ∃ m, h.Ns N m ∧ m "__init__" = none := by
  unfold noInit at e
  rw [Bool.and_eq_true] at e
  obtain ⟨e1, e2⟩ := e
  refine ⟨h.nsMap N, .of_isNs (PySem.W.isNs_of_in X e1), PySem.W.nsMap_none_of_in X e1 ?_⟩
  split at e2
  · assumption
  · cases e2
theorem exK_obj {K : PySem.W.Frag} {h : Heap} {C : Addr} (X : K.In h) (e : exK K C = true) : ∃ nm qn N bs D hdct sn sub ab col dd k0 k1 k2 k3 k5 mN,
    h.get? C = some (excClassObj nm qn C N bs (.ref D :: veB) hdct sn sub ab col dd k0 k1 k2 k3 k5 "ValueError.__new__") ∧ h.Ns N mN ∧ mN "__init__" = none ∧ OwnTail h veB (.ref D :: veB) := by
  unfold exK at e
  split at e
  · rename_i dd cd sl ho
    split at e
    · rename_i C' D k0 k1 k2 k3 k5 hm hs
      simp only [Bool.and_eq_true, beq_iff_eq, Bool.not_eq_true'] at e
      obtain ⟨⟨⟨rfl, hdel⟩, hN⟩, e4⟩ := e
      obtain ⟨nm, bs, mro, ns, qn, hd, sn, sub, ab, col, del⟩ := cd
      dsimp only at hm hdel hN
      subst hm hdel
      have hsl : sl = #[k0, k1, k2, k3, some (.builtin "ValueError.__new__"), k5] := by
        obtain ⟨l⟩ := sl
        simp only at hs
        rw [hs]
      subst hsl
      obtain ⟨mN, n1, n2⟩ := noInit_ns X hN
      split at e4
      · rename_i hD
        obtain ⟨mD, d1, d2⟩ := noInit_ns X e4
        exact ⟨nm, qn, ns, bs, D, hd, sn, sub, ab, col, dd, k0, k1, k2, k3, k5, mN, X _ _ ho, n1, n2, .own (X _ _ hD) d1 d2 .base⟩
      · cases e4
    · cases e
  · cases e
/-! ### raise -/
section
variable {P : Program} {w : World} {K : PySem.W.Frag} {mg : Str → Option Value} {base : Heap} {N : List Str} {qual : Str} {scope : Scope} {f : Addr} {cd : Value} {A : Around} {outer : List Env} {s : Shared} {H : Hp} {E : XK}
theorem ps_raise0 {x : Str} {np cpos pos : Pos} {C : Addr} (hC : exK K C = true) (hm : mg x = some (.ref C)) (hg : Gl (cxOf (CXE P w) P w K mg base N qual scope f cd A outer s H E) x) (hd : (x == ("__debug__" : Str)) = false := by decide) :
    PS (cxOf (CXE P w) P w K mg base N qual scope f cd A outer s H E) (.Raise (some (.Call (.Name x np) [] [] cpos)) none pos) (fun _ _ H1 => E (.ref C) none H1) := by
  intro pins s1 σ H1 D I hE
  obtain ⟨nm, qn, N', bs, D', hdct, sn, sub, ab, col, dd, k0, k1, k2, k3, k5, mN, hCo, hN, hni, T⟩ := exK_obj I.kIn hC
  refine wpAny_Raise_call_subU (C := C) (nm := nm) (q := qn) (N := N') (bs := bs) (bm := .ref D' :: veB) (hdct := hdct) (sn := sn) (sub := sub) (ab := ab) (col := col) (dd := dd) (k0 := k0) (k1 := k1) (k2 := k2) (k3 := k3) (k5 := k5) PySem.F.excBase_ValueError (by decide +kernel) PySem.F.excBase_ValueError (mN := mN) (T.hasType PySem.F.excBase_ValueError.hasBase) (I.ok.hd rfl) rfl hni (ld_glob I hg hm ⟨rfl, ?_⟩ hd)
  refine evalArgs_empty ⟨rfl, Nat.zero_le _, hCo, hN, T, fun h' e hx => ?_⟩
  have fr : ∀ b ∈ frs (envOfC qual scope s.heap.objs.size f cd :: outer), H1 b = none := I.stkFree
  have hin : ∀ env ∈ (envOfC qual scope s.heap.objs.size f cd :: outer), ∀ b, env.frame = some b → b ∈ frs (envOfC qual scope s.heap.objs.size f cd :: outer) := fun env he b hb => List.mem_filterMap.mpr ⟨env, he, hb⟩
  refine wpAny_leaves_madeW (s := { s1 with heap := h' }) (base := PySem.W.hideAll s1.heap (frs (envOfC qual scope s.heap.objs.size f cd :: outer))) (h := s1.heap) I.ok.frames rfl (fun b o q => PySem.W.of_hideAll _ q) (PySem.W.funFrames_hide I.stack hin) hx fun h2 t x1 x2 x3 x4 => ?_
  have nf : ∀ {b : Addr} {o : Obj}, s.heap.get? b = some o → b ∉ frs outer → b ∉ frs (envOfC qual scope s.heap.objs.size f cd :: outer) := fun {b o} e n z => by
    have z' : b ∈ s.heap.objs.size :: frs outer := z
    rcases List.mem_cons.mp z' with q | q
    · exact absurd (Heap.lt_size e) (by rw [q]; exact Nat.lt_irrefl _)
    · exact n q
  refine ⟨e, t, H1, .ref C, _, rfl, I.os, I.bare, hE, x1, ⟨fun a o q => ?_, ?_, fun b o q n hb => ?_, fun b o q n hb => ?_, fun b o q hb => ?_, fun b o q n => I.base.free b o q n (by exact List.not_mem_nil), I.base.tups, I.base.frzs, I.base.tbls⟩⟩
  · refine (I.hok a o q).stay (fun b u hb z => PySem.W.hideAll_get _ z fun hm => ?_) (fun _ z => z) fun _ _ z => z
    have := fr b hm
    rcases hb with rfl | hb
    · rw [q] at this; cases this
    · rw [hb] at this; cases this
  · cases q : H1 e with
    | none => rfl
    | some o =>
      obtain ⟨u, hu⟩ := (I.hok e o q).some
      rw [hx.new] at hu; cases hu
  · exact PySem.W.hideAll_get _ (I.base.keep b o q n hb List.not_mem_nil) (nf q hb)
  · obtain ⟨sl, z⟩ := I.base.slot b o q n hb List.not_mem_nil
    obtain ⟨_, o', ho', hd'⟩ := I.ok.funs.mem hb
    rw [show (cxOf (CXE P w) P w K mg base N qual scope f cd A outer s H E).s₀.heap.get? b = some o from q] at ho'
    cases ho'
    obtain ⟨sl2, z2⟩ := x4 b _ (hx.keeps b _ z) hd'
    exact ⟨sl2, z2⟩
  · obtain ⟨o', z⟩ := I.base.there b o q List.not_mem_nil
    exact ⟨o', PySem.W.hideAll_get _ z (nf q hb)⟩
end
/-! ### a def that may raise -/
theorem Fun.okE {P : Program} {w : World} {K : PySem.W.Frag} {mg : Str → Option Value} {base : Heap} {x qual : Str} {st : Stmt} {f : Addr} {fd : FuncData} {N ps : List Str} {k : Nat} {sp : Sp} (F : Fun K x qual st f fd) (S : FnScope N ps (defScope st)) (len : ∀ vs H Q E, sp vs H Q E → vs.length = ps.length)
    (hbody : ∀ (cdv : Value) (A : Around) (outer : List Env) (s : Shared) (H : Hp) (vs : List V) (Q : VK) (E : XK), Room k (A.deeper (envOfC qual (defScope st) s.heap.objs.size f cdv)) → sp vs H Q E →
      ∃ t, PSs (cxOf (CXE P w) P w K mg base N qual (defScope st) f cdv A outer s H E) (defBody st) t ∧ t { nx := fun _ H' => Q .non H', rt := Q } (start N vs) H) : FnOk P w K mg base (CXE P w) (k + 1) f fd ps sp := by
  obtain ⟨oc, od, kV, doc, pm, an, cdv, ct, osl, rfl, lk, hcd⟩ := F.ex
  exact fn_of lk hcd S len fun A outer s H vs Q E hr hsp => hbody cdv A outer s H vs Q E hr hsp
/-! ### try: name = f(..) except C as n -/
/-- within an except suite -/
abbrev Cx.suite (X : Cx) (ea : Addr) : Cx := { X with A := X.A.mark (some (.ref ea)), calm := false, xe := fun _ _ => False }
section
variable {X : Cx} {pins : List (Addr × Obj)} {σ : St} {H H1 : Hp} {s s' : Shared} {h : Heap} {ea : Addr}
theorem Cx.Ok.suite (ok : X.Ok) (ea : Addr) : (X.suite ea).Ok :=
  ⟨ok.mod, ok.kind, ok.glob, ok.blt, ok.above, ok.inj, ok.has, ok.cab, fun z => (nomatch z), ok.frames, ok.stk, ok.exf, ok.bs, ok.bsz, ok.noex, ok.exfs, ok.funs, ok.frf⟩
theorem Inv.suite (I : Inv X pins σ H s) (ea : Addr) : Inv (X.suite ea) pins σ H s := ⟨I.ok.suite ea, I.os, I.bare, I.base, I.loc, I.cell, I.free, I.freeC, I.pin, I.hok, I.len⟩
theorem Inv.unsuite (ok : X.Ok) (I : Inv (X.suite ea) pins σ H s) : Inv X pins σ H s := ⟨ok, I.os, I.bare, I.base, I.loc, I.cell, I.free, I.freeC, I.pin, I.hok, I.len⟩
/-- the catcher's state with the exception at hand -/
theorem Inv.caught {B : Heap} {cls a0 : Value} (I : Inv X pins σ H s) (L : Lay X.prog X.w X.stack H H1 s ea B s'.heap) (os : s'.os = s.os) (bare : AllBare s'.gens) (up : s'.heap.UpToSlots h) (fl : Heap.FlyingW B X.stack ea cls a0 h) :
    Inv X pins σ (upd H1 ea (.ext (isOf ea cls))) { s' with heap := h } := by
  have hf : ∀ b o, s.heap.get? b = some o → b ∈ frs X.stack → ∀ vs, o.data ≠ .fields vs := fun b o e hb => by
    obtain ⟨_, o', ho', hd'⟩ := I.stack.mem hb
    rw [e] at ho'; cases ho'; exact hd'
  obtain ⟨ob, vs, hob, hoc, hod, _⟩ := fl.first
  have slot : ∀ b o, s.heap.get? b = some o → H b = none → b ∈ frs X.stack → ∃ sl, h.get? b = some { o with slots := sl } := fun b o e n hb => by
    obtain ⟨sl, z⟩ := L.slot b o e n hb
    obtain ⟨sl2, z2⟩ := up b { o with slots := sl } z (hf b o e hb)
    exact ⟨sl2, z2⟩
  have ne : ∀ b o, s.heap.get? b = some o → b ≠ ea := fun b o e z => by
    subst z
    by_cases hb : b ∈ frs X.stack
    · obtain ⟨sl, q⟩ := slot b o e (I.stkFree b hb) hb
      rw [hob] at q
      cases q
      exact hf b o e hb _ hod
    · obtain ⟨o', q⟩ := L.there b o e hb
      rw [fl.2.1] at q; cases q
  have hB : HOk X.prog X.w H1 h := L.hok.kept fun b u q => fl.1 b u q
  refine I.call' (s' := { s' with heap := h }) (ch := []) os ⟨fun b o e n hb _ => fl.1 b o (L.keep b o e n hb), fun b o e n hb _ => slot b o e n hb, fun b o e n _ => by rw [upd_ne (ne b o e)]; exact L.free b o e n, fun b o e _ => ?_, fun b xs e => ?_, fun b o u e => ?_, fun b ps e => ?_⟩ (fun a o e => ?_) bare (fun _ z => nomatch z)
  · by_cases hb : b ∈ frs X.stack
    · obtain ⟨sl, q⟩ := slot b o e (I.stkFree b hb) hb
      exact ⟨_, q⟩
    · obtain ⟨o', q⟩ := L.there b o e hb
      exact ⟨o', fl.1 b o' q⟩
  · have := L.tups b xs e
    rw [upd_ne (ne_of_none this L.new)]; exact this
  · have := L.frzs b o u e
    rw [upd_ne (ne_of_none this L.new)]; exact this
  · obtain ⟨more, q⟩ := L.tbls b ps e
    exact ⟨more, by rw [upd_ne (ne_of_none q L.new)]; exact q⟩
  · by_cases ha : a = ea
    · subst ha
      rw [upd_same] at e
      cases e
      exact ⟨⟨ob, hob, hoc⟩, ⟨ob, hob⟩, fun h1 h2 ⟨o, e1, e2⟩ k => ⟨o, k o e1, e2⟩⟩
    · rw [upd_ne ha] at e
      exact (hB a o e).stay (fun _ _ _ q => q) (fun c q => by rw [upd_ne (ne_of_none q L.new)]; exact q) fun c xs q => by rw [upd_ne (ne_of_none q L.new)]; exact q
/-- a name is gone -/
theorem Inv.unset {j : Nat} {n : Str} {m : Str → Option Value} {v : Option Value} {h' : Heap} {t' : Nat} (I : Inv X pins σ H s) (hN : X.N.Nodup) (hj : X.N[j]? = some n) (hn : s.heap.Ns X.env.locals m)
    (hl : ∀ (i : Nat) (x : Str) (v : V), X.N[i]? = some x → σ[i]? = some (some v) → Vis X.env.scope x → ∃ u, RelV v u ∧ Look X.env s.heap m x u)
    (hn' : h'.Ns X.env.locals (fun x => if x = n then v else m x)) (hs : Heap.SameBut X.env.locals s.heap h') : Inv X pins (σ.set j none) H { s with heap := h', toks := t' } := by
  have cne := I.cne
  obtain ⟨oL, _, _, hoL, _⟩ := id hn
  refine ⟨I.ok, I.os, I.bare, ⟨fun b o e n hb hx => ?_, fun b o e n hb hx => ?_, I.base.free, fun b o e hx => ?_, I.base.tups, I.base.frzs, I.base.tbls⟩, ⟨_, hn', fun i y v' e1 e2 e3 => ?_⟩, fun y c e => ?_, I.free, I.freeC, fun p hp => ?_, fun b ob e => ?_, by simpa using I.len⟩
  · exact (hs.2 b (Nat.ne_of_lt (Nat.lt_of_lt_of_le (Heap.lt_size e) I.ok.above))).trans (I.base.keep b o e n hb hx)
  · obtain ⟨sl, e1⟩ := I.base.slot b o e n hb hx
    exact ⟨sl, (hs.2 b (Nat.ne_of_lt (Nat.lt_of_lt_of_le (Heap.lt_size e) I.ok.above))).trans e1⟩
  · obtain ⟨o', e1⟩ := I.base.there b o e hx
    exact ⟨o', (hs.2 b (Nat.ne_of_lt (Nat.lt_of_lt_of_le (Heap.lt_size e) I.ok.above))).trans e1⟩
  · by_cases hi : i = j
    · subst hi
      by_cases hlt : i < σ.length
      · rw [List.getElem?_set_self hlt] at e2; cases e2
      · rw [List.getElem?_eq_none (by simpa using hlt)] at e2; cases e2
    · rw [List.getElem?_set_ne (Ne.symm hi)] at e2
      obtain ⟨u', r', q⟩ := hl i y v' e1 e2 e3
      refine ⟨u', r', ?_⟩
      rcases q with ⟨k, e⟩ | ⟨k, c, e, z⟩
      · refine .inl ⟨k, ?_⟩
        have : y ≠ n := fun e => hi (nodup_ix hN e1 (e ▸ hj))
        simp [this, e]
      · exact .inr ⟨k, c, e, z.sameBut hs (cne y c e)⟩
  · obtain ⟨w', z⟩ := I.cell y c e
    exact ⟨w', z.sameBut hs (cne y c e)⟩
  · obtain ⟨e, n, ne, nf, d⟩ := I.pin p hp
    exact ⟨(hs.2 p.1 ne).trans e, n, ne, nf, d⟩
  · refine (I.hok b ob e).stay (fun c w' hc q => (hs.2 c ?_).trans q) (fun _ q => q) fun _ _ q => q
    rintro rfl
    have hfree := I.free
    rcases hc with rfl | hc
    · rw [hfree] at e; cases e
    · rw [hfree] at hc; cases hc
end
/-! ### isinstance of an exception -/
/-- what the fragment must tell of an exception's class -/
def exC (K : PySem.W.Frag) (C : Addr) : Bool := PySem.W.findIn K (.ref C) "__getattribute__" == some (some (.builtin "BaseException.__getattribute__")) && PySem.W.findIn K (.ref C) "__getattr__" == some none && PySem.W.mroIn K C (.type "BaseException") == some true && PySem.W.hasDictIn K C && PySem.W.findIn K (.ref C) "__class__" == some (some (.builtin "object.__class__")) &&
  PySem.W.specialIn K (.builtin "object.__class__") "__get__" == some (some (.builtin "getset_descriptor.__get__")) && PySem.W.takesIn K (.builtin "object.__class__") == some true && PySem.W.mroIn K C (.type "object") == some true
section
open PySem.W PySem.Calls Builtin Builtin.ObjectAttr Builtin.Getset_descriptor
variable {K : PySem.W.Frag} {x C : Addr}
theorem looks_findD {M : Model} {h : Heap} {nm : Str} {a g : Value} (X : K.In h) (ha : PySem.W.findIn K (.ref C) nm = some (some a)) (hg : PySem.W.specialIn K a "__get__" = some (some g)) (ht : PySem.W.takesIn K a = some true) :
    Looks M h (find (.ref x) (.ref C) nm) (.bind g a) := by
  have l1 := PySem.W.looks_findIn (M := M) X ha
  have l2 : Looks M h (getOf (some a)) (some g) := PySem.W.looks_specialIn X hg
  have l3 := PySem.W.looks_takesIn (M := M) X ht
  exact l1.andThen (l2.andThen ((show Looks M h (dataDescriptor? (some a) (some g)) (some (g, a)) from l3.andThen .now).andThen (Looks.tag .now)))
theorem isOf_ty {M : Model} {h : Heap} (p : isOf x (.ref C) h) : Looks M h (typeOf (.ref x)) (.ref C) := by
  obtain ⟨o, h1, h2⟩ := p
  exact h2 ▸ (Looks.ld h1).andThen .now
section
open PySem.W
variable {prog : Program} {w : World} {A : Around} {E : Value → Shared → Prop} {s : Shared}
theorem xc_get {tp : Value} {R : Result → Shared → Prop} (X : K.In s.heap) (p : isOf x (.ref C) s.heap) (hm : mroIn K C (.type "object") = some true) (h : R (.ok (.ret (.ref C))) s) :
    codeAny (model prog w) A (.call (.builtin "getset_descriptor.__get__") ⟨[.builtin "object.__class__", .ref x, tp], []⟩) R s := by
  obtain ⟨hh, g, dr, t, os⟩ := s
  have L0 := isOf_ty (M := model prog w) p
  have L1 := looks_mroIn (M := model prog w) X hm
  refine codeAny_call_builtin KF.slot_gs.plain KF.entry_gs (KF.slot_gs.check _ _ _ _ _ _ _ _ KF.type_class (KF.args_gs _ _ _) ?_)
  unfold Builtin.«getset_descriptor.__get__» descrGet
  rw [dga_obj]
  refine wpAny_bind (wpAny_pure ?_)
  unfold descrGetter descrCheckInstance descrNameAndClass isInstance
  simp only [KF.owner_class]
  repeat lk
  refine ⟨Code.quiet_builtin _ (by decide +kernel), codeAny_builtin KF.entry_class ?_⟩
  unfold Builtin.«object.__class__» shownTypeOf
  repeat lk
  exact h
theorem xc_call {tk : Tok} {R : Result → Shared → Prop} (X : K.In s.heap) (p : isOf x (.ref C) s.heap) (hb : mroIn K C (.type "BaseException") = some true)
    (ha : findIn K (.ref C) "__class__" = some (some (.builtin "object.__class__"))) (hn : specialIn K (.builtin "object.__class__") "__get__" = some (some (.builtin "getset_descriptor.__get__"))) (ht : takesIn K (.builtin "object.__class__") = some true) (hm : mroIn K C (.type "object") = some true)
    (h : R (.ok (.ret (.ref C))) s) : codeAny (model prog w) A (.call (.builtin "BaseException.__getattribute__") ⟨[.ref x, .str "__class__" tk], []⟩) R s := by
  obtain ⟨hh, g, d, t, os⟩ := s
  have L0 := isOf_ty (M := model prog w) p
  have LB := looks_mroIn (M := model prog w) X hb
  have LF : Looks (model prog w) hh (find (.ref x) (.ref C) "__class__") (.bind (.builtin "getset_descriptor.__get__") (.builtin "object.__class__")) := looks_findD X ha hn ht
  have hk : builtinKind "BaseException.__getattribute__" = some .slot := by decide +kernel
  have hsp : splitId "BaseException.__getattribute__" = some ("BaseException", "__getattribute__") := by decide +kernel
  have har := F.args_bexc_ga (.ref x) (.str "__class__" tk)
  refine codeAny_call_builtin PySem.F.excAttr_ValueError.ga.plain F.entry_bexc_ga ?_
  simp only [checkBuiltinCall, hk, hsp]
  refine wpAny_bind ?_
  unfold isInstance
  repeat lk
  refine (show wpAny _ _ (PySem.run (.call (.builtin "getset_descriptor.__get__") ⟨[.builtin "object.__class__", .ref x, .ref C], []⟩)) _ _ _ from wpAny_run (xc_get (s := ⟨hh, g, d, t, os⟩) X p hm ?_))
  exact wpAny_pure (wpAny_pure h)
theorem xc_attr {Q : Option Value → Shared → Prop} (X : K.In s.heap) (p : isOf x (.ref C) s.heap) (hga : findIn K (.ref C) "__getattribute__" = some (some (.builtin "BaseException.__getattribute__"))) (hk : findIn K (.ref C) "__getattr__" = some none) (hb : mroIn K C (.type "BaseException") = some true)
    (ha : findIn K (.ref C) "__class__" = some (some (.builtin "object.__class__"))) (hn : specialIn K (.builtin "object.__class__") "__get__" = some (some (.builtin "getset_descriptor.__get__"))) (ht : takesIn K (.builtin "object.__class__") = some true) (hm : mroIn K C (.type "object") = some true)
    (q : Q (some (.ref C)) { s with toks := s.toks + 1 }) : wpAny (model prog w) A (getAttr? (.ref x) "__class__") Q E s := by
  obtain ⟨hh, g, d, t, os⟩ := s
  have L0 := isOf_ty (M := model prog w) p
  have L1 := looks_findIn (M := model prog w) X hga
  have L2 := looks_findIn (M := model prog w) X hk
  have fb := PySem.F.excAttr_ValueError.ga.bind (.ref x)
  unfold getAttr? getAttrBy? getAttrBy
  refine wpAny_bind (wpAny_mkText (wpAny_bind (wpAny_attempt (wpAny_holding (wpAny_bind (L0.at (wpAny_bind (L1.at ?_))))))))
  show wpAny _ _ (getAttrByItsOwn (.ref x) _ (.ref C) (.builtin "BaseException.__getattribute__") false false) _ _ _
  unfold getAttrByItsOwn
  refine wpAny_bind (m := hookBefore (.ref C)) (L2.at ?_)
  refine wpAny_bind (wpAny_attempt (wpAny_holding (wpAny_bind (wpAny_of_eq fb (wpAny_call (xc_call (s := ⟨hh, g, d, t + 1, os⟩) X p hb ha hn ht hm ?_))))))
  exact handed_on rfl (wpAny_pure q)
theorem kitx_exc (hx : exC K C = true) : KitX K (.ref x) (.ref C) (isOf x (.ref C)) := by
  unfold exC at hx
  simp only [Bool.and_eq_true, beq_iff_eq] at hx
  obtain ⟨⟨⟨⟨⟨⟨⟨hga, hk⟩, hb⟩, hdct⟩, ha⟩, hn⟩, ht⟩, hm⟩ := hx
  obtain ⟨cdD, hcD, _⟩ := any_some hdct
  unfold clsIn at hcD
  split at hcD
  · rename_i c' d' cd' sl' ho
    refine ⟨fun M h _ p => isOf_ty p, fun M h X _ A' Q' E' s' k q => ?_, fun h tp dd its n sl X htp => Bool.eq_false_iff.mpr fun q => ?_, fun X p k => xc_attr X p hga hk hb ha hn ht hm k⟩
    · unfold isType loadHead
      exact wpAny_bind (wpAny_loadPart (k _ _ (X _ _ ho)) (wpAny_pure q))
    · have e : C = tp := Value.ref.inj (beq_iff_eq.mp q)
      subst e
      have z := (X _ _ ho).symm.trans htp
      cases z
  · cases hcD
end
end
/-- a class as isinstance takes it -/
inductive IsCls : V → Value → Prop where
  | ref (a : Addr) : IsCls (.ref a) (.ref a)
  | ty (n : String) : IsCls (.ty n) (.type n)
section
variable {X : Cx}
theorem call_isinstE : CallR X (.builtin "isinstance") (fun xs H Q => ∃ a C c u b, xs = [.ref a, c] ∧ H a = some (.ext (isOf a (.ref C))) ∧ exC X.K C = true ∧ IsCls c u ∧ PySem.W.kitOne X.K (.ref C) u = some b ∧ Q (.bl b) H) := by
  intro pins s σ H xs us Q I r h
  obtain ⟨a, C, c, u, b, rfl, ha, hx, hc, e, q⟩ := h
  obtain ⟨v, u', rfl, ru, rv⟩ := vals2 r
  cases (show v = Value.ref a from ru)
  have eu : u' = u := by
    cases hc with
    | ref a' => exact rv
    | ty n => exact rv
  subst eu
  obtain ⟨p, _, _⟩ := (show ObjOk X.prog X.w H s.heap a (.ext (isOf a (.ref C))) from I.hok a _ ha)
  exact PySem.W.kia_one (kitx_exc hx) I.kIn p e (fun z => nomatch z) fun tk => ⟨.bl b, H, I.tok _, rfl, q⟩
theorem call_isinstK {K : PySem.W.Frag} (hK : X.K = K) : CallR X (.builtin "isinstance") (fun xs H Q => ∃ a C c u b, xs = [.ref a, c] ∧ H a = some (.ext (isOf a (.ref C))) ∧ exC K C = true ∧ IsCls c u ∧ PySem.W.kitOne K (.ref C) u = some b ∧ Q (.bl b) H) := by
  subst hK; exact call_isinstE
theorem pe_cls {n : Str} {C : Addr} {pos : Pos} (hm : X.mg n = some (.ref C)) (hg : Gl X n := by rfl) (hd : (n == ("__debug__" : Str)) = false := by decide) : PE X (.Name n pos) (tC (.ref C)) :=
  fun pins s σ H Q I h => ld_glob I hg hm ⟨.ref C, H, I, rfl, h⟩ hd
end
theorem pu_isE {K : PySem.W.Frag} {σ : St} {H : Hp} {t : TA} {a C : Addr} {c : V} {u : Value} {b : Bool} (ha : PuA t σ H [.ref a, c]) (h : H a = some (.ext (isOf a (.ref C)))) (hx : exC K C = true) (hc : IsCls c u) (e : PySem.W.kitOne K (.ref C) u = some b) :
    Pu (tCB (fun xs H Q => ∃ a C c u b, xs = [.ref a, c] ∧ H a = some (.ext (isOf a (.ref C))) ∧ exC K C = true ∧ IsCls c u ∧ PySem.W.kitOne K (.ref C) u = some b ∧ Q (.bl b) H) t) σ H (.bl b) := fun _ q => ha _ ⟨a, C, c, u, b, rfl, h, hx, hc, e, q⟩
end L2

set_option linter.all false
set_option maxRecDepth 100000
set_option maxHeartbeats 4000000
namespace L2
open PySem PySem.Spec PyProof.Rows
/-! ### dict(a list of pairs), the keys tuples -/
end L2

set_option linter.all false
set_option maxRecDepth 100000
set_option maxHeartbeats 4000000
namespace L2
open PySem PySem.Spec PyProof.Rows
end L2

set_option linter.all false
set_option maxRecDepth 100000
set_option maxHeartbeats 4000000
namespace L2
open PySem PySem.Spec PyProof.Rows
end L2

set_option linter.all false
set_option maxRecDepth 100000
set_option maxHeartbeats 4000000
namespace L2
open PySem PySem.Spec PyProof.Rows
/-! ### the keys walked -/
end L2

set_option linter.all false
set_option maxRecDepth 100000
set_option maxHeartbeats 4000000
namespace L2
open PySem PySem.Spec PyProof.Rows
end L2

set_option linter.all false
set_option maxRecDepth 100000
set_option maxHeartbeats 4000000
namespace L2
open PySem PySem.Spec PyProof.Rows
end L2

set_option linter.all false
set_option maxRecDepth 100000
set_option maxHeartbeats 4000000
namespace L2
open PySem PySem.Spec PyProof.Rows
end L2

set_option linter.all false
set_option maxRecDepth 100000
set_option maxHeartbeats 4000000
namespace L2
open PySem PySem.Spec PyProof.Rows PySem.W
end L2

set_option linter.all false
set_option maxRecDepth 100000
set_option maxHeartbeats 4000000
namespace L2
open PySem PySem.Spec PyProof.Rows
end L2

set_option linter.all false
set_option maxRecDepth 100000
set_option maxHeartbeats 4000000
namespace L2
open PySem PySem.Spec PyProof.Rows
theorem cutV_drop (xs : List V) {k : Nat} (h : k ≤ xs.length) : cutV xs (some (k : Int)) none = xs.drop k := by
  have e1 : HT.sIx xs.length 0 (some (k : Int)) = k := by
    unfold HT.sIx
    simp only []
    split <;> omega
  have e2 : HT.sIx xs.length xs.length none = xs.length := rfl
  unfold cutV
  rw [e1, e2]
  exact List.take_of_length_le (by rw [List.length_drop]; exact Nat.le_refl _)
theorem same_updNew {H H' : Hp} {r : Addr} {o : HO} (s : Same H H') (h : H r = none) : Same H (L2.upd H' r o) := fun b u e => by
  rw [upd_ne (ne_of_none e h)]
  exact s b u e
section
variable {σ : St} {H : Hp} {D : Ends} {rest : TS} {te to : TE} {l : Addr} {xs : List V} {K : PySem.W.Frag}
theorem st_app {R : V → Hp → Prop} (ho : Pu to σ H (.ref l)) (hl : H l = some (.lst xs)) (he : Gv te σ H R) (q : ∀ v H', R v H' → ∃ ys, H' l = some (.lst ys) ∧ ys.length < sizeLine ∧ rest D σ (upd H' l (.lst (ys ++ [v])))) :
    tSeq (tDrop (tBM K "list" rAppend to (tCons te tNil))) rest D σ H := st_app1 (D := { D with nx := rest D }) ho hl he q
theorem gv_from {k : Nat} {tk : TE} (ho : Pu to σ H (.ref l)) (hk : Pu tk σ H (.int k)) (hl : SqL K H l xs) (hkl : k ≤ xs.length) : Gv (tSl (rSlL K) to (tPart tk) tNoPart) σ H (fun v H' => ∃ p, H p = none ∧ v = .ref p ∧ H' = upd H p (.lst (xs.drop k))) := fun Q q =>
  ho _ (hk _ ⟨k, rfl, l, xs, rfl, hl, fun p hp => by rw [cutV_drop xs hkl]; exact q _ _ ⟨p, hp, rfl, rfl⟩⟩)
end
end L2

set_option linter.all false
set_option maxRecDepth 100000
set_option maxHeartbeats 4000000
namespace L2
open PySem PySem.Spec PyProof.Rows
end L2

set_option linter.all false
set_option maxRecDepth 100000
set_option maxHeartbeats 4000000
namespace L2
open PySem PySem.Spec PyProof.Rows
end L2

set_option linter.all false
set_option maxRecDepth 100000
set_option maxHeartbeats 4000000
namespace L2
open PySem PySem.Spec PyProof.Rows
end L2

set_option linter.all false
set_option maxRecDepth 100000
set_option maxHeartbeats 4000000
namespace L2
open PySem PySem.Spec PyProof.Rows
/-! ### rows of points, laid -/
end L2

set_option linter.all false
set_option maxRecDepth 100000
set_option maxHeartbeats 4000000
namespace L2
open PySem PySem.Spec PyProof.Rows
theorem same_none {H H' : Hp} {p : Addr} (s : Same H H') (h : H' p = none) : H p = none := by
  cases e : H p with
  | none => rfl
  | some o => rw [s _ _ e] at h; cases h
end L2

set_option linter.all false
set_option maxRecDepth 100000
set_option maxHeartbeats 4000000
namespace L2
open PySem PySem.Spec PyProof.Rows
end L2

set_option linter.all false
set_option maxRecDepth 100000
set_option maxHeartbeats 4000000
namespace L2
open PySem PySem.Spec PyProof.Rows
theorem gv_cb1 {σ : St} {H : Hp} {r : List V → Hp → VK → Prop} {te : TE} {R R' : V → Hp → Prop} (h : Gv te σ H R) (f : ∀ v H', R v H' → ∀ Q : VK, (∀ w H'', R' w H'' → Q w H'') → r [v] H' Q) : Gv (tCB r (tCons te tNil)) σ H R' := fun Q q => h _ fun v H' rv => f v H' rv Q q
end L2

set_option linter.all false
set_option maxRecDepth 100000
set_option maxHeartbeats 4000000
namespace L2
open PySem PySem.Spec PyProof.Rows
section
variable {σ : St} {H : Hp} {D : Ends} {rest : TS} {ta tb te to : TE} {b : Bool} {k : Nat} {v0 : V} {i j : Int} {l : Addr} {xs : List V} {K : PySem.W.Frag} {t : TA}
theorem st_ifRG {tc : TT} {u : TS} {RB : Bool → Hp → Prop} (R : St → Hp → Prop) (hc : GvT tc σ H RB) (h1 : ∀ H1, RB true H1 → ∀ D' : Ends, (∀ σ' H', R σ' H' → D'.nx σ' H') → D'.rt = D.rt → u D' σ H1) (h0 : ∀ H1, RB false H1 → R σ H1) (q : ∀ σ' H', R σ' H' → rest D σ' H') : tSeq (tIfS tc u tNext) rest D σ H :=
  st_ifNG hc (fun H1 e => h1 H1 e _ q rfl) (fun H1 e => q _ _ (h0 H1 e))
end
theorem Same.rfl' {H : Hp} : Same H H := fun _ _ e => e
end L2

set_option linter.all false
set_option maxRecDepth 100000
set_option maxHeartbeats 4000000
namespace L2
open PySem PySem.Spec PyProof.Rows
section
variable {P : Program} {w : World} {K : PySem.W.Frag} {mg : Str → Option Value} {base : Heap} {N : List Str} {qual : Str} {scope : Scope} {f : Addr} {cd : Value} {A : Around} {outer : List Env} {s : Shared} {H : Hp} {E : XK}
/-- an exception of a callee goes on through this frame -/
theorem passX : Passes (CXE P w) (cxOf (CXE P w) P w K mg base N qual scope f cd A outer s H E) E := by
  rintro pins σ H1 s1 e s' I ⟨ea, t, H2, cls, B, rfl, os, bare, hE, fl, L⟩
  refine wpAny_leaves_onW I.ok.frames rfl fl fun h' fl' up => ?_
  have nf : ∀ {b : Addr} {o : Obj}, s.heap.get? b = some o → b ∉ frs outer → b ∉ frs (envOfC qual scope s.heap.objs.size f cd :: outer) := fun {b o} e n z => by
    have z' : b ∈ s.heap.objs.size :: frs outer := z
    rcases List.mem_cons.mp z' with q | q
    · exact absurd (Heap.lt_size e) (by rw [q]; exact Nat.lt_irrefl _)
    · exact n q
  have inn : ∀ {b : Addr}, b ∈ frs outer → b ∈ frs (envOfC qual scope s.heap.objs.size f cd :: outer) := fun {b} h => by
    show b ∈ s.heap.objs.size :: frs outer
    exact List.mem_cons_of_mem _ h
  have fre : ∀ b o, s.heap.get? b = some o → H b = none → H1 b = none := fun b o q n => I.base.free b o q n (by exact List.not_mem_nil)
  refine ⟨ea, t, H2, cls, B, rfl, os.trans I.os, bare, hE, fl', ⟨L.hok, L.new, fun b o q n hb => ?_, fun b o q n hb => ?_, fun b o q hb => ?_, fun b o q n => ?_, fun b xs q => L.tups b xs (I.base.tups b xs q), fun b o u q => L.frzs b o u (I.base.frzs b o u q), fun b ps q => ?_⟩⟩
  · exact L.keep b o (I.base.keep b o q n hb List.not_mem_nil) (fre b o q n) (nf q hb)
  · obtain ⟨sl, z⟩ := I.base.slot b o q n hb List.not_mem_nil
    obtain ⟨sl2, z2⟩ := L.slot b _ z (fre b o q n) (inn hb)
    obtain ⟨_, o', ho', hd'⟩ := I.ok.funs.mem hb
    rw [show (cxOf (CXE P w) P w K mg base N qual scope f cd A outer s H E).s₀.heap.get? b = some o from q] at ho'
    cases ho'
    obtain ⟨sl3, z3⟩ := up b _ z2 hd'
    exact ⟨sl3, z3⟩
  · obtain ⟨o', z⟩ := I.base.there b o q List.not_mem_nil
    exact L.there b o' z (nf q hb)
  · obtain ⟨sl, z⟩ := I.base.any q n List.not_mem_nil
    exact L.free b _ z (fre b o q n)
  · obtain ⟨m1, z1⟩ := I.base.tbls b ps q
    obtain ⟨m2, z2⟩ := L.tbls b _ z1
    exact ⟨m1 ++ m2, by rw [z2, Array.append_assoc]⟩
end
section
variable {X : Cx} {k j : Nat} {f : Addr} {fd : FuncData} {ps : List Str} {sp : Sp} {x : Str} {st : Stmt} {p pos : Pos} {e : Expr} {es : List Expr} {t : TA} {E : XK} {P : Program} {w : World}
/-- a call of a def that may raise, the exception going on -/
theorem pe_fnX (T : Fn X.K X.mg x st f fd ps) (G : FnOk X.prog X.w X.K X.mg X.base (CXE P w) k f fd ps sp) (hr : Room j X.A) (hj : k ≤ j) (hx : Passes (CXE P w) X E) (ha : PA X (e :: es) t) (hg : Gl X x := by rfl) (hdb : (x == ("__debug__" : Str)) = false := by decide)
    (he : starEach (e :: es) X.env = (false, eval e X.env) :: starEach es X.env := by rfl) (hpl : (backTo pos (starEach es X.env)).any (·.1) = false := by rfl) : PE X (.Call (.Name x p) (e :: es) [] pos) (tCall sp [] E t) :=
  pe_call G (hr.mono hj) hg T.m T.F.kp T.b .nil hx ha hdb he hpl
end
/-- of a def that is never reached nothing is asked -/
def spNo : Sp := fun _ _ _ _ => False
theorem Fun.okNo {P : Program} {w : World} {K : PySem.W.Frag} {mg : Str → Option Value} {base : Heap} {x qual : Str} {st : Stmt} {f : Addr} {fd : FuncData} {N ps : List Str} (F : Fun K x qual st f fd) (S : FnScope N ps (defScope st)) : FnOk P w K mg base CX0 1 f fd ps spNo :=
  F.ok (k := 0) S (fun _ _ _ _ h => h.elim) fun _ _ _ _ _ _ _ _ _ h => h.elim
/-! ### {} -/
/-! ### try: f(..) except C as n: .., with return -/
section
variable {X : Cx} {pins : List (Addr × Obj)} {σ : St} {H H1 : Hp} {s s' : Shared} {h : Heap} {ea : Addr}
def tTryE (j : Nat) (K : PySem.W.Frag) (C : Addr) (sp : Sp) (ta : TA) (ts : TS) : TS := fun D σ H => ta σ H fun vs H1 => sp vs H1 (fun _ H2 => D.nx σ H2)
  (fun cls _ H2 => PySem.W.exmOne K cls (.ref C) = some true ∧ ∀ ea, H2 ea = none → ts { nx := fun σ' H' => D.nx (σ'.set j none) H', rt := fun v H' => D.rt v H', bk := fun _ _ => False, ct := fun _ _ => False } (σ.set j (some (.ref ea))) (upd H2 ea (.ext (isOf ea cls))))
theorem st_tryE {j : Nat} {K : PySem.W.Frag} {C : Addr} {sp : Sp} {ta : TA} {ts rest : TS} {D : Ends} {vs : List V} (ha : PuA ta σ H vs)
    (h : sp vs H (fun _ H2 => rest D σ H2) (fun cls _ H2 => PySem.W.exmOne K cls (.ref C) = some true ∧ ∀ ea, H2 ea = none → ts { nx := fun σ' H' => rest D (σ'.set j none) H', rt := fun v H' => D.rt v H', bk := fun _ _ => False, ct := fun _ _ => False } (σ.set j (some (.ref ea))) (upd H2 ea (.ext (isOf ea cls))))) : tSeq (tTryE j K C sp ta ts) rest D σ H := ha _ h
theorem ps_tryE {j k : Nat} {fn cn n : Str} {pf pc pa np hp pos : Pos} {f C : Addr} {fd : FuncData} {ps : List Str} {sp : Sp} {e : Expr} {es : List Expr} {ta : TA} {ts : TS} {b₀ : Stmt} {suite : List Stmt}
    (hxe : X.xe = fun _ _ => False) (hstk : X.stack = X.env :: X.outer) (hfr : X.env.frame = some X.env.locals) (hcalm : X.calm = true)
    (G : FnOk X.prog X.w X.K X.mg X.base (CXE X.prog X.w) k f fd ps sp) (hr : Room k X.A) (hgf : Gl X fn) (hmf : X.mg fn = some (.ref f)) (hkf : PySem.W.keepIn X.K (.ref f) = true) (hb : Binds X.K fd ps []) (ha : PA X (e :: es) ta)
    (hN : X.N.Nodup) (hj : X.N[j]? = some n) (hn : X.env.scope.names.lookup n = some .local)
    (hgC : Gl X cn) (hmC : X.mg cn = some (.ref C)) (hs : ∀ ea, PSs (X.suite ea) (b₀ :: suite) ts)
    (hsw : swapsWith (.Call (.Name fn pf) (e :: es) [] pc) none pa.line X.env = pure false := by rfl)
    (hdb : (fn == ("__debug__" : Str)) = false := by decide) (hdc : (cn == ("__debug__" : Str)) = false := by decide) (he : starEach (e :: es) X.env = (false, eval e X.env) :: starEach es X.env := by rfl) (hpl : (backTo pc (starEach es X.env)).any (·.1) = false := by rfl) :
    PS X (.Try [.Expr (.Call (.Name fn pf) (e :: es) [] pc) pa] [.ExceptHandler (some (.Name cn np)) (some n) (b₀ :: suite) hp] [] [] pos) (tTryE j X.K C sp ta ts) := by
  intro pins s σ H D I h
  refine wpAny_Try_except ?_
  refine wpAny_execs_cons (wpAny_Expr_any (wpAny_Call_Name_kw (ld_glob I hgf hmf ?_ hdb)) I.quiet hsw)
  refine PySem.W.callWith_K (h₀ := X.base) I.ok.mod.kin hkf (wpAny_mono (ha pc pins s σ H _ I h) (fun us s1 ⟨vs, H1, I1, r, q⟩ => ⟨I1.kIn, ?_⟩) fun _ _ z => by rw [hxe] at z; exact z.elim) he hpl
  have hl : (us ++ []).length = ps.length := by rw [List.append_nil, ← r.length]; exact G.len _ _ _ _ q
  have hbd := hb s1 us I1.kIn hl
  rw [List.append_nil] at hbd
  refine wpAny_call (codeAny_mono (G.run X.A X.stack s1 H1 ⟨us, []⟩ us vs _ _ hr I1.env0 hbd r q) fun res s2 hq => ?_)
  cases res with
  | ok fl =>
    cases fl with
    | next => exact False.elim hq
    | brk => exact False.elim hq
    | cont => exact False.elim hq
    | ret u =>
      obtain ⟨v, H2, I2, rv, q2⟩ := I1.after hq
      exact wpAny_execs_nil (wpAny_execs_nil ⟨_, H2, I2, q2⟩)
  | error ex =>
    obtain ⟨ea, t, H2, cls, B, rfl, os, bare, ⟨hm, hE⟩, fl, L⟩ := hq
    have fl' := fl
    rw [hstk] at fl'
    refine wpAny_looks_onW (by rw [I.ok.frames, hstk]) hfr fl' fun h4 held4 up4 => ?_
    refine wpAny_landsW (s := { s2 with heap := h4 }) held4 fun h5 fl5 up5 => ?_
    have up45 := up4.trans up5
    have I5 := I1.caught L os bare up45 (by rw [hstk]; exact fl5)
    obtain ⟨ob, hob, hobc⟩ := fl5.there
    refine wpAny_handleBy_cons (codeAny_handlers_test (ld_glob (X := X.suite ea) (I5.suite ea) hgC hmC ?_ hdc)) (by intro z; cases z)
    have LT : PySem.W.Looks (model X.prog X.w) h5 (typeOf (.ref ea)) cls := hobc ▸ (PySem.W.Looks.ld hob).andThen .now
    refine (PySem.W.exm_one (K := X.K) I5.kIn LT hm).at (codeAny_handlers_suite_as ?_)
    refine lands_againW (s := { s2 with heap := h5 }) fl5 fun h6 fl6 up6 => ?_
    have I6 := (I1.caught L os bare (up45.trans up6) (by rw [hstk]; exact fl6)).suite ea
    refine store_ok (X := X.suite ea) I6 hN hj (.inl hn) (show RelV (.ref ea) (.ref ea) from rfl) (fun s7 I7 => ?_) (.inr hn)
    refine wpAny_mono (hs ea pins s7 _ _ _ I7 (hE ea L.new)) (fun fl s8 q8 => ?_) fun _ _ z => z.elim
    cases fl with
    | next =>
      obtain ⟨σ8, H8, I8, q⟩ := q8
      have I8' := I8.unsuite I.ok
      obtain ⟨m, hm, hlk⟩ := id I8'.loc
      exact wpAny_nameGoes_keeps hn hm (by rw [I.ok.kind]; rfl) fun h9 v9 n9 sb9 => ⟨_, H8, I8'.unset hN hj hm hlk n9 sb9, q⟩
    | brk => obtain ⟨_, _, _, q⟩ := q8; exact q.elim
    | cont => obtain ⟨_, _, _, q⟩ := q8; exact q.elim
    | ret u =>
      obtain ⟨v8, σ8, H8, I8, r8, q⟩ := q8
      have I8' := I8.unsuite I.ok
      obtain ⟨m, hm, hlk⟩ := id I8'.loc
      exact wpAny_nameGoes_keeps hn hm (by rw [I.ok.kind]; rfl) fun h9 v9 n9 sb9 => ⟨v8, _, H8, I8'.unset hN hj hm hlk n9 sb9, r8, q⟩
end
/-! ### isinstance of an exception with a tuple of classes -/
section
variable {X : Cx}
theorem call_isinstT {K : PySem.W.Frag} (hK : X.K = K) : CallR X (.builtin "isinstance") (fun xs H Q => ∃ a C tp cs us b, xs = [.ref a, .ref tp] ∧ H a = some (.ext (isOf a (.ref C))) ∧ exC K C = true ∧ H tp = some (.tup cs) ∧ Paired IsCls cs us ∧ PySem.W.kitAny K (.ref C) us = some b ∧ Q (.bl b) H) := by
  subst hK
  intro pins s σ H xs us' Q I r h
  obtain ⟨a, C, tp, cs, us, b, rfl, ha, hx, ht, hc, e, q⟩ := h
  obtain ⟨v, u', rfl, ru, rv⟩ := vals2 r
  cases (show v = Value.ref a from ru)
  cases (show u' = Value.ref tp from rv)
  obtain ⟨p, _, _⟩ := (show ObjOk X.prog X.w H s.heap a (.ext (isOf a (.ref C))) from I.hok a _ ha)
  obtain ⟨_, its, r1, o, ho, hcls, n, hd⟩ := (show ObjOk X.prog X.w H s.heap tp (.tup cs) from I.hok tp _ ht)
  have eu : its = us := by
    have : ∀ {cs : List V} {us its : List Value}, Paired IsCls cs us → Vals cs its → its = us := by
      intro cs us its h1 h2
      induction h1 generalizing its with
      | nil => cases h2; rfl
      | cons hc _ ih =>
        cases h2 with
        | cons hr ht =>
          rw [ih ht]
          cases hc with
          | ref a' => rw [show _ = Value.ref a' from hr]
          | ty n => rw [show _ = Value.type n from hr]
    exact this hc r1
  subst eu
  obtain ⟨oc, od, odt, osl⟩ := o
  dsimp only at hcls hd
  subst hcls hd
  exact PySem.W.kia_tup (kitx_exc hx) I.kIn p ho e (fun z => nomatch z) fun tk => ⟨.bl b, H, I.tok _, rfl, q⟩
end
end L2

set_option linter.all false
set_option maxRecDepth 100000
set_option maxHeartbeats 4000000
namespace L2
open PySem PySem.Spec PyProof.Rows
/-- isinstance(e, (A, B, ..)) -/
theorem gv_callBT {K : PySem.W.Frag} {σ : St} {H : Hp} {te : TE} {ta : TA} {a C : Addr} {cs : List V} {us : List Value} {b : Bool} (he : Pu te σ H (.ref a)) (ht : PuA ta σ H cs) (hz : cs.length ≤ sizeLine) (ha : H a = some (.ext (isOf a (.ref C)))) (hx : exC K C = true) (hc : Paired IsCls cs us) (e : PySem.W.kitAny K (.ref C) us = some b) :
    Gv (tCB (fun xs H Q => ∃ a C tp cs us b, xs = [.ref a, .ref tp] ∧ H a = some (.ext (isOf a (.ref C))) ∧ exC K C = true ∧ H tp = some (.tup cs) ∧ Paired IsCls cs us ∧ PySem.W.kitAny K (.ref C) us = some b ∧ Q (.bl b) H) (tCons te (tCons (tTup ta) tNil))) σ H (fun v H' => v = .bl b ∧ Same H H') := fun Q q =>
  he _ (ht _ ⟨hz, fun p hp => ⟨a, C, p, cs, us, b, rfl, by rw [upd_ne (ne_of_none ha hp)]; exact ha, hx, upd_same, hc, e, q _ _ ⟨rfl, Same.upd hp⟩⟩⟩)
section
variable {es : List Expr} {env : Env}
theorem star_tup {a b c} : starEach (.Tuple a b c :: es) env = (false, eval (.Tuple a b c) env) :: starEach es env := rfl
theorem star_lst {a b} : starEach (.List a b :: es) env = (false, eval (.List a b) env) :: starEach es env := rfl
theorem star_con {a b c} : starEach (.Constant a b c :: es) env = (false, eval (.Constant a b c) env) :: starEach es env := rfl
theorem star_bin {a b c d} : starEach (.BinOp a b c d :: es) env = (false, eval (.BinOp a b c d) env) :: starEach es env := rfl
theorem star_name {a b} : starEach (.Name a b :: es) env = (false, eval (.Name a b) env) :: starEach es env := rfl
theorem star_call {a b c d} : starEach (.Call a b c d :: es) env = (false, eval (.Call a b c d) env) :: starEach es env := rfl
theorem star_sub {a b c} : starEach (.Subscript a b c :: es) env = (false, eval (.Subscript a b c) env) :: starEach es env := rfl
theorem star_cmp {a b c d} : starEach (.Compare a b c d :: es) env = (false, eval (.Compare a b c d) env) :: starEach es env := rfl
theorem star_lc {a b c d} : starEach (.ListComp a b c d :: es) env = (false, eval (.ListComp a b c d) env) :: starEach es env := rfl
end
theorem len2 : 2 ≤ sizeLine := by decide
theorem len3 : 3 ≤ sizeLine := by decide
end L2

set_option linter.all false
set_option maxHeartbeats 4000000
namespace L2
/-! ### rounds -/

/-! ### sums round a ring -/
end L2

set_option linter.all false
set_option maxRecDepth 100000
set_option maxHeartbeats 4000000
namespace L2
open PySem PySem.Spec PyProof.Rows

/-! ### sides, laid -/
end L2

set_option linter.all false
set_option maxRecDepth 100000
set_option maxHeartbeats 4000000
namespace L2
open PySem PySem.Spec PyProof.Rows
end L2

set_option linter.all false
set_option maxRecDepth 100000
set_option maxHeartbeats 4000000
namespace L2
open PySem PySem.Spec PyProof.Rows
/-! ### plain data, laid -/
mutual
inductive Dat (K : PySem.W.Frag) (H : Hp) : Nat → V → PyData → Prop
  | int {k : Nat} (n : Int) : Dat K H k (.int n) (.int n)
  | tup {k : Nat} {a : Addr} {vs : List V} {ds : List PyData} : SqT K H a vs → Dats K H k vs ds → Dat K H (k + 1) (.ref a) (.tuple ds)
  | lst {k : Nat} {a : Addr} {vs : List V} {ds : List PyData} : SqL K H a vs → Dats K H k vs ds → Dat K H (k + 1) (.ref a) (.list ds)
inductive Dats (K : PySem.W.Frag) (H : Hp) : Nat → List V → List PyData → Prop
  | nil {k : Nat} : Dats K H k [] []
  | cons {k : Nat} {v : V} {vs : List V} {d : PyData} {ds : List PyData} : Dat K H k v d → Dats K H k vs ds → Dats K H k (v :: vs) (d :: ds)
end
section
open PySem.SeqAt PyProof.V
variable {K : PySem.W.Frag} {H : Hp}
mutual
theorem Dat.can : ∀ {k : Nat} {v : V} {d : PyData}, Dat K H k v d → d.canLay0 = true ∧ d.depth ≤ k ∧ noMix d d = true
  | _, _, _, .int n => by simp [PyData.canLay0, PyData.depth, noMix]
  | _, _, _, .tup h t => by
    have := Dats.can t
    simp only [PyData.canLay0, PyData.depth, noMix]
    exact ⟨this.1, by omega, this.2.2⟩
  | _, _, _, .lst h t => by
    have := Dats.can t
    simp only [PyData.canLay0, PyData.depth, noMix]
    exact ⟨this.1, by omega, this.2.2⟩
theorem Dats.can : ∀ {k : Nat} {vs : List V} {ds : List PyData}, Dats K H k vs ds → PyData.canLayAll0 ds = true ∧ PyData.depthAll ds ≤ k ∧ noMixAll ds ds = true
  | _, _, _, .nil => by simp [PyData.canLayAll0, PyData.depthAll, noMixAll]
  | _, _, _, .cons h t => by
    have h1 := Dat.can h
    have h2 := Dats.can t
    simp only [PyData.canLayAll0, PyData.depthAll, noMixAll, Bool.and_eq_true]
    exact ⟨⟨h1.1, h2.1⟩, by omega, h1.2.2, h2.2.2⟩
end
theorem Dat.shaped {k : Nat} {v : V} {d : PyData} (h : Dat K H k v d) (hk : k ≤ 64) : PySem.SeqAt.shaped d = true := by
  have := h.can
  show (PyData.canLay0 d && decide (PyData.depth d ≤ 64)) = true
  rw [Bool.and_eq_true]
  exact ⟨this.1, decide_eq_true (by omega)⟩
end
section
open PySem.SeqAt PyProof.V
variable {X : Cx} {pins : List (Addr × Obj)} {σ : St} {H : Hp} {s : Shared}
mutual
theorem Inv.dat {K : PySem.W.Frag} (hK : X.K = K) (I : Inv X pins σ H s) : ∀ {k : Nat} {v : V} {d : PyData}, Dat K H k v d → ∀ u, RelV v u → ∃ as, Reads s.heap u d as
  | _, _, _, .int n, _, r => by
    obtain ⟨t, rfl⟩ := (show ∃ t, _ = Value.int n t from r)
    exact ⟨_, Reads.int n t⟩
  | _, _, _, .tup h t, _, r => by
    cases r
    obtain ⟨its, rv, p, _⟩ := I.tuple (hK ▸ h)
    obtain ⟨o, ho, hc, n, hd⟩ := p
    obtain ⟨as, ra⟩ := Inv.dats hK I t _ rv
    exact ⟨_, Reads.tuple ho hc hd (by simpa using ra)⟩
  | _, _, _, .lst h t, _, r => by
    cases r
    obtain ⟨its, rv, pl, _⟩ := I.list (hK ▸ h)
    obtain ⟨o, ho, hc, n, hd⟩ := pl.isList
    obtain ⟨as, ra⟩ := Inv.dats hK I t _ rv
    exact ⟨_, Reads.list ho hc hd (by simpa using ra)⟩
theorem Inv.dats {K : PySem.W.Frag} (hK : X.K = K) (I : Inv X pins σ H s) : ∀ {k : Nat} {vs : List V} {ds : List PyData}, Dats K H k vs ds → ∀ us, Vals vs us → ∃ as, ReadsAll s.heap us ds as
  | _, _, _, .nil, _, .nil => ⟨_, .nil⟩
  | _, _, _, .cons p q, _, .cons r t => by
    obtain ⟨as, h1⟩ := Inv.dat hK I p _ r
    obtain ⟨bs, h2⟩ := Inv.dats hK I q _ t
    exact ⟨_, .cons h1 h2⟩
end
end
section
variable {K : PySem.W.Frag} {H : Hp}
theorem dats_ints : ∀ {k : Nat} (ns : List Int), Dats K H k (ns.map V.int) (ns.map PyData.int)
  | _, [] => .nil
  | _, n :: ns => .cons (.int n) (dats_ints ns)
end
/-! ### [::-1] -/
end L2

set_option linter.all false
set_option maxHeartbeats 4000000
namespace L2
/-! ### points that are drawn, one after another -/
end L2

set_option linter.all false
set_option maxRecDepth 100000
set_option maxHeartbeats 4000000
namespace L2
open PySem PySem.Spec PyProof.Rows
end L2

set_option linter.all false
set_option maxRecDepth 100000
set_option maxHeartbeats 4000000
namespace L2
open PySem PySem.Spec PyProof.Rows
end L2

set_option linter.all false
set_option maxRecDepth 100000
set_option maxHeartbeats 4000000
namespace L2
open PySem PySem.Spec PyProof.Rows
end L2

set_option linter.all false
set_option maxRecDepth 100000
namespace L2
open PySem PySem.StrLaws PySem.Builtin PySem.Builtin.Str
/-! ### texts: what is joined is split again -/
theorem str_ext {x y : Str} (h : x.cps.toList = y.cps.toList) : x = y := by
  cases x; cases y
  simp only at h
  rw [Array.toList_inj.mp h]
theorem len_list (x : Str) : x.cps.toList.length = x.length := by simp [Str.length]
end L2

set_option linter.all false
set_option maxRecDepth 100000
namespace L2
open PySem PySem.StrLaws PySem.Builtin PySem.Builtin.Str PySem.NumText PyProof.Rows
/-! ### numbers as texts -/
def tx (n : Int) : Str := Str.ofString (toString n)
def Dg (m : Nat) : List Nat := (Nat.toDigits 10 m).map Char.toNat
theorem Dg_all (m : Nat) : AllDigits (Dg m) := by
  intro c hc
  obtain ⟨ch, hch, e⟩ := List.mem_map.mp hc
  have r := digit_range (Nat.isDigit_of_mem_toDigits (by decide) (by decide) hch)
  rw [← e]
  exact r
theorem Dg_len (m : Nat) : 1 ≤ (Dg m).length := by
  unfold Dg
  rw [List.length_map]
  exact PyProof.Rows.tDigits_len_ge 10 m
theorem Dg_ne (m : Nat) : Dg m ≠ [] := fun e => by
  have := Dg_len m
  rw [e] at this
  exact absurd this (by decide)
theorem Dg_le {m k : Nat} (hk : 1 ≤ k) (h : m < 10 ^ k) : (Dg m).length ≤ k := by
  unfold Dg
  rw [List.length_map]
  exact digits10_le hk h
theorem Dg_val (m : Nat) : digitsVal (Dg m) = m := PySem.W.KIN.val_back m
theorem val_lt : ∀ (cs : List Nat) (a : Nat), AllDigits cs → cs.foldl (fun acc c => acc * 10 + (c - 48)) a < (a + 1) * 10 ^ cs.length
  | [], a, _ => by simp
  | c :: cs, a, h => by
    have hc := h.head
    have ih := val_lt cs (a * 10 + (c - 48)) h.tail
    refine Nat.lt_of_lt_of_le ih ?_
    rw [List.length_cons, Nat.pow_succ, Nat.mul_comm (10 ^ cs.length) 10, ← Nat.mul_assoc]
    refine Nat.mul_le_mul_right _ ?_
    omega
theorem tx_pos (m : Nat) : (tx (m : Int)).cps.toList = Dg m := PySem.W.KIN.signs_num m
theorem tx_neg (m : Nat) (h : 0 < m) : (tx (-(m : Int))).cps.toList = 45 :: Dg m := by
  obtain ⟨k, rfl⟩ : ∃ k, m = k + 1 := ⟨m - 1, by omega⟩
  unfold tx
  rw [signs_ofString]
  show (toString (Int.negSucc k)).toList.map Char.toNat = _
  have e : toString (Int.negSucc k) = "-" ++ Nat.repr (k + 1) := rfl
  rw [e, String.toList_append, List.map_append, Nat.toList_repr]
  rfl
theorem tx_reads (n : Int) (h : n.natAbs < 10 ^ 60) : PySem.intText? (tx n) = some n ∧ (tx n).length ≤ 61 := by
  have hl := Dg_le (k := 60) (by decide) h
  rcases Int.lt_or_le n 0 with z | z
  · obtain ⟨m, hm, rfl⟩ : ∃ m : Nat, 0 < m ∧ n = -(m : Int) := ⟨n.natAbs, by omega, by omega⟩
    have e := tx_neg m hm
    have el : (tx (-(m : Int))).length ≤ 61 := by
      rw [← len_list, e, List.length_cons]
      have : (-(m : Int)).natAbs = m := by omega
      rw [this] at hl
      omega
    refine ⟨?_, el⟩
    have := intText_neg e (Dg_all m) (Dg_ne m) (by omega)
    rw [Dg_val] at this
    exact this
  · obtain ⟨m, rfl⟩ := Int.eq_ofNat_of_zero_le z
    have e := tx_pos m
    have el : (tx (m : Int)).length ≤ 61 := by
      rw [← len_list, e]
      have : (m : Int).natAbs = m := by omega
      rw [this] at hl
      omega
    refine ⟨?_, el⟩
    have := intText_digits (x := tx (m : Int)) (by rw [e]; exact Dg_all m) (by rw [e]; exact Dg_ne m) (by omega)
    rw [e, Dg_val] at this
    exact this
/-- a fraction's text -/
def shF (f : Int × Int) : Str := if f.2 = 1 then tx f.1 else tx f.1 ++ Str.ofString "/" ++ tx f.2
theorem app_list (x y : Str) : (x ++ y).cps.toList = x.cps.toList ++ y.cps.toList := by simp [Str.cps_append]
end L2

set_option linter.all false
set_option maxRecDepth 100000
namespace L2
open PySem PySem.Spec PyProof.Rows
/-! texts: methods, slices, f-strings, iteration -/
section
variable {X : Cx}
/-- a module's constant -/
theorem pe_konS {x : Str} {v : Str} {pos : Pos} (hm : ∃ tk, X.mg x = some (.str v tk)) (hg : Gl X x := by rfl) (hd : (x == ("__debug__" : Str)) = false := by decide) : PE X (.Name x pos) (tC (.str v)) := by
  obtain ⟨tk, hm⟩ := hm
  exact pe_glob hg hm ⟨tk, rfl⟩ hd
theorem pe_konI {x : Str} {v : Int} {pos : Pos} (hm : ∃ tk, X.mg x = some (.int v tk)) (hg : Gl X x := by rfl) (hd : (x == ("__debug__" : Str)) = false := by decide) : PE X (.Name x pos) (tC (.int v)) := by
  obtain ⟨tk, hm⟩ := hm
  exact pe_glob hg hm ⟨tk, rfl⟩ hd
theorem mt_starts : MtR X "str.startswith" (fun x xs H Q => ∃ a b, x = .str a ∧ xs = [.str b] ∧ Q (.bl (decide (0 + b.length ≤ a.length) && Builtin.Str.subAt a b 0)) H) := by
  intro pins s σ H x xs v us Q I rx rs h
  obtain ⟨a, b, rfl, rfl, q⟩ := h
  obtain ⟨t, rfl⟩ := rx
  obtain ⟨u, rfl, t', rfl⟩ := vals1 rs
  exact call_gives PySem.F.slot_str_startswith (typeIs_str _ _ _) PySem.F.entry_str_startswith (PySem.F.args_str_startswith_2 _ _) (gives_str_startswith a b t t') ⟨V.bl _, H, I, rfl, q⟩
theorem strs_vals : ∀ (l : List Str) (k : Nat), Vals (l.map V.str) (strsFrom k l)
  | [], k => .nil
  | x :: r, k => .cons ⟨k, rfl⟩ (strs_vals r (k + 1))
theorem mt_split : MtR X "str.split" (fun x xs H Q => ∃ a b, x = .str a ∧ xs = [.str b] ∧ 1 ≤ b.length ∧ a.length ≤ sizeLine ∧ (Txt.split a b).length ≤ sizeLine ∧ ∀ p, H p = none → Q (.ref p) (upd H p (.lst ((Txt.split a b).map V.str)))) := by
  intro pins s σ H x xs v us Q I rx rs h
  obtain ⟨a, b, rfl, rfl, hb, ha, hn, q⟩ := h
  obtain ⟨t, rfl⟩ := rx
  obtain ⟨u, rfl, t', rfl⟩ := vals1 rs
  have hq := q _ (I.hok.fresh (Nat.le_refl _))
  have hb' : (b.length == 0) = false := by
    rw [beq_eq_false_iff_ne]
    omega
  have fin : ∀ (l : List Value) (tk : Nat), Vals ((Txt.split a b).map V.str) l → EP X pins σ Q (.ref s.heap.objs.size) { s with toks := tk, heap := s.heap.push { cls := .type "list", data := .seq l.toArray } } := fun l tk hl =>
    ⟨.ref s.heap.objs.size, _, I.laid (t' := tk) (o := .lst ((Txt.split a b).map V.str)) (fun b ob q => Heap.get?_push_of_some _ q) (Nat.le_refl _) ⟨by rw [List.length_map]; exact hn, l, 0, hl, Heap.get?_push_size _ rfl⟩, rfl, hq⟩
  cases h1 : (decide (a.length < b.length) || decide (Builtin.Str.strKind a < Builtin.Str.strKind b))
  · cases hf : (Builtin.Str.occurrences a b 0 a.length (a.length + 1)).isEmpty
    · have e : Txt.split a b = Builtin.Str.partsBetween a (Builtin.Str.occurrences a b 0 a.length (a.length + 1)) b.length := (if_neg (ne_true_of_eq_false h1)).trans (if_neg (ne_true_of_eq_false hf))
      refine call_meets PySem.F.slot_str_split (typeIs_str _ _ _) PySem.F.entry_str_split (PySem.F.args_str_split_2 _ _) (meets_str_split_sep a b t t' h1 hb' hf ha (by rw [← e]; exact hn)) ?_
      rw [← e]
      exact fin _ _ (strs_vals _ _)
    · have e : Txt.split a b = [a] := (if_neg (ne_true_of_eq_false h1)).trans (if_pos hf)
      refine call_meets PySem.F.slot_str_split (typeIs_str _ _ _) PySem.F.entry_str_split (PySem.F.args_str_split_2 _ _) (meets_str_split_not_found a b t t' h1 hb' hf) ?_
      refine fin [.str a t] s.toks ?_
      rw [e]
      exact .cons ⟨t, rfl⟩ .nil
  · have e : Txt.split a b = [a] := if_pos h1
    refine call_meets PySem.F.slot_str_split (typeIs_str _ _ _) PySem.F.entry_str_split (PySem.F.args_str_split_2 _ _) (meets_str_split_cannot_occur a b t t' h1) ?_
    refine fin [.str a t] s.toks ?_
    rw [e]
    exact .cons ⟨t, rfl⟩ .nil
theorem vals_strs : ∀ {xs : List Str} {us : List Value}, Vals (xs.map V.str) us → ∃ l : List (Str × Tok), us = strValues l ∧ l.map (·.1) = xs
  | [], _, .nil => ⟨[], rfl, rfl⟩
  | x :: r, _, .cons h t => by
    obtain ⟨tk, rfl⟩ := h
    obtain ⟨l, e1, e2⟩ := vals_strs t
    exact ⟨(x, tk) :: l, by rw [e1]; rfl, by rw [List.map_cons, e2]⟩
theorem mt_join : MtR X "str.join" (fun x xs H Q => ∃ a l ys, x = .str a ∧ xs = [.ref l] ∧ SqL X.K H l (ys.map V.str) ∧ PySem.JoinOk a ys = true ∧ Q (.str (Str.join a ys)) H) := by
  intro pins s σ H x xs v us Q I rx rs h
  obtain ⟨a, l, ys, rfl, rfl, hl, hok, q⟩ := h
  obtain ⟨t, rfl⟩ := rx
  obtain ⟨u, rfl, e⟩ := vals1 rs
  cases e
  obtain ⟨its, r, p, _⟩ := I.list hl
  obtain ⟨ls, rfl, e2⟩ := vals_strs r
  subst e2
  have hok' := hok
  unfold PySem.JoinOk at hok'
  rw [Bool.not_eq_true'] at hok'
  refine call_meets PySem.F.slot_str_join (typeIs_str _ _ _) PySem.F.entry_str_join (PySem.F.args_str_join_2 _ _) (meets_str_join_list a t l ls hok') ⟨p.isList, post_join ls ⟨joinFit_length hok', fun t' k => ?_⟩⟩
  have e3 : Txt.join a (ls.map (·.1)) = Str.join a (ls.map (·.1)) := StrLaws.glued_eq_join _ _
  rw [e3]
  exact ⟨V.str _, H, I.tok _, ⟨_, rfl⟩, q⟩
theorem call_intS : CallR X (.type "int") (fun xs H Q => ∃ x n, xs = [.str x] ∧ PySem.intText? x = some n ∧ x.length ≤ 640 ∧ Q (.int n) H) := by
  intro pins s σ H xs us Q I r h
  obtain ⟨x, n, rfl, hn, hl, q⟩ := h
  obtain ⟨u, rfl, t, rfl⟩ := vals1 r
  exact PySem.W.KIN.call_text hn hl ⟨.int n, H, I.tok _, ⟨_, rfl⟩, q⟩
/-- text[1:] -/
theorem cut1_ix {n : Nat} (h : 1 ≤ n) : Builtin.Str.strSliceIndices (some 1) none 1 n = List.range' 1 (n - 1) := by
  unfold Builtin.Str.strSliceIndices PySem.sliceRange
  have e1 : max 0 (min (1 : Int) (n : Int)) = 1 := by omega
  simp only [show ((1 : Int) > 0) = True from by simp, if_true, show ¬ ((1 : Int) < 0) by decide, if_false, e1, Int.ediv_one]
  have e2 : (if (1 : Int) < (n : Int) then (n : Int) - 1 + 1 - 1 else 0).toNat = n - 1 := by
    split <;> omega
  rw [e2, List.range'_eq_map_range]
  refine List.map_congr_left fun k _ => ?_
  omega
theorem pick_all {α : Type} : ∀ (xs pre : List α), (List.range' pre.length xs.length).filterMap (fun i => (pre ++ xs)[i]?) = xs
  | [], pre => by simp
  | x :: r, pre => by
    rw [List.length_cons, List.range'_succ, List.filterMap_cons]
    have e : (pre ++ x :: r)[pre.length]? = some x := by simp
    rw [e]
    have ih := pick_all r (pre ++ [x])
    rw [List.length_append, List.append_assoc] at ih
    exact congrArg (x :: ·) ih
theorem drop1_map {α : Type} (xs : List α) : (List.range' 1 (xs.length - 1)).filterMap (fun i => xs[i]?) = xs.drop 1 := by
  cases xs with
  | nil => rfl
  | cons x r => exact pick_all r [x]
def rSl1 : V → Option Int → Option Int → Hp → VK → Prop := fun x lo hi H Q => ∃ a, x = .str a ∧ lo = some 1 ∧ hi = none ∧ 1 ≤ a.length ∧ a.length ≤ sizeLine ∧ Q (.str ⟨(a.cps.toList.drop 1).toArray⟩) H
theorem sl_str1 : SlR X rSl1 := by
  intro pins s σ H x v vl vu lo hi sl Q I rx hs pl pu h
  obtain ⟨a, rfl, rfl, rfl, h1, h2, q⟩ := h
  obtain ⟨t, rfl⟩ := rx
  cases pl with
  | int i tk =>
    cases pu
    refine ⟨"str", _, PySem.F.slot_str_getitem.lookup, typeIs_str _ _ _, ?_⟩
    refine wpAny_getItem_str_slice (l := some (1, tk)) (u := none) (st := none) hs rfl ?_
    have e : slicePicked a (some (1, tk)) none none = List.range' 1 (a.length - 1) := cut1_ix h1
    unfold sliceMade
    rw [if_neg (by rw [e, List.length_range']; simp; omega), e]
    have e2 : (List.range' 1 (a.length - 1)).filterMap (fun i => a.cps[i]?) = a.cps.toList.drop 1 := by
      rw [← drop1_map, len_list]
      congr 1
      funext i
      simp
    rw [e2]
    refine ⟨?_, V.str _, H, I.tok _, ⟨_, rfl⟩, q⟩
    show (a.cps.toList.drop 1).toArray.size ≤ sizeLine
    rw [List.size_toArray, List.length_drop, len_list]
    omega
theorem app_len (x y : Str) : (x ++ y).length = x.length + y.length := by
  rw [← len_list, ← len_list, ← len_list, app_list, List.length_append]
/-- the signs of a text, one by one -/
def Its (x : Str) : It := ⟨fun i _ => i < x.length, fun i H v H' => H' = H ∧ ∃ c, x.cps.toList[i]? = some c ∧ v = .str ⟨#[c]⟩, fun i _ => x.length ≤ i⟩
theorem turn_str {P : Program} {w : World} {K : PySem.W.Frag} {tg : Expr} (x : Str) (t : Tok) (it : Addr) : Turn P w K tg (Its x) [it] it (fun i h => h.IsStrIter it "str_ascii_iterator" x t i) where
  mem := by simp
  obj := fun i h st b hb => by
    have e : b = it := by simpa using hb
    subst e
    obtain ⟨o, e, c, d⟩ := st
    exact ⟨o, e, fun v z => by rw [d] at z; cases z⟩
  keep := fun i h h' st k => by
    obtain ⟨o, e, r⟩ := st
    exact ⟨o, k it (by simp) o e, r⟩
  item := by
    intro X hP hw hK hc i pins s σ H E I hf st hg
    subst hP hw hK
    have hi : i < x.cps.toList.length := by rw [len_list]; exact hg
    obtain ⟨f0, f1, f2, f3, f4, f5⟩ := hf it (by simp)
    have hx : x.cps[i]? = some x.cps.toList[i] := by
      rw [← Array.getElem?_toList]
      exact List.getElem?_eq_getElem hi
    refine wpAny_pyNext_ascii_item st hx fun h' st' sb => ?_
    have I1 : Inv X pins σ H { s with heap := h', toks := s.toks + 1 } := I.turned (t' := s.toks + 1) (fun b o hb e => (sb.2 b hb).trans e) f0 f1 f3 f4 f5
    obtain ⟨o, e, c, d⟩ := id st'
    exact ⟨_, rfl, go_of (s := { s with heap := h', toks := s.toks + 1 }) e c d (by decide) ⟨V.str ⟨#[x.cps.toList[i]]⟩, H, I1, ⟨_, rfl⟩, ⟨rfl, _, List.getElem?_eq_getElem hi, rfl⟩, st', fun b hb => (hf b hb).1⟩⟩
  done := by
    intro X hP hw hK hc i pins s σ H E I hf st hg
    subst hP hw hK
    obtain ⟨f0, f1, f2, f3, f4, f5⟩ := hf it (by simp)
    have hx : x.cps[i]? = none := by
      rw [← Array.getElem?_toList, List.getElem?_eq_none_iff, len_list]
      exact hg
    exact wpAny_pyNext_ascii_end (I.ok.hd hc) st hx fun h' eb => ⟨rfl, I.turned (t' := s.toks) (fun b o hb e => eb b o hb e) f0 f1 f3 f4 f5⟩
  self := fun _ _ _ _ _ st h => wpAny_pyIter_striter_ascii st h
def iStr (tl : TE) : TI := fun σ H R => tl σ H fun x H1 => ∃ a, x = .str a ∧ (∀ c ∈ a.cps.toList, c < 128) ∧ R (Its a) H1
theorem pi_str {tg l : Expr} {tl : TE} (hl : PE X l tl) : PI X tg l (iStr tl) := by
  intro pins s σ H R I h
  refine thn (hl pins s σ H _ I h) fun v s1 ⟨x, H1, I1, r1, a, e, ha, q⟩ => ?_
  subst e
  obtain ⟨t, rfl⟩ := r1
  have hal : a.cps.all (· < 128) = true := by
    rw [← Array.all_toList, List.all_eq_true]
    intro c hc
    simpa using ha c hc
  refine wpAny_pyIter_ascii hal ?_
  refine ⟨s1.heap.objs.size, [s1.heap.objs.size], _, _, H1, rfl, I1.kept (t' := s1.toks) fun b o e => Heap.get?_push_of_some _ e, turn_str a t _, ⟨_, Heap.get?_push_size _ rfl, rfl, rfl⟩, fun b hb => ?_, q⟩
  have e : b = s1.heap.objs.size := by simpa using hb
  subst e
  exact I1.fpOk (Nat.le_refl _) (I1.hok.fresh (Nat.le_refl _))
end
end L2

set_option linter.all false
set_option maxRecDepth 100000
namespace L2
open PySem PySem.Spec PyProof.Rows
section
variable {σ : St} {H : Hp} {te tl : TE} {fr : St → St} {k : Nat} {K : PySem.W.Frag}
/-- [.. for x in what is laid] -/
theorem gv_compOf {g : TG} {RL R : V → Hp → Prop} (hl : Gv tl σ H RL) (hr : ∀ v H1, RL v H1 → Gv (tComp (iList K (tC v)) fr g te) σ H1 R) : Gv (tComp (iList K tl) fr g te) σ H R := fun Q q => hl _ fun v H1 r => hr v H1 r Q q
/-- over a text's signs -/
theorem gv_compS {a : Str} (f : Nat → V) (hl : Pu tl σ H (.str a)) (ha : ∀ c ∈ a.cps.toList, c < 128) (hz : a.length ≤ 1000) (hk : ∀ x, KeepS (fr σ) ((fr σ).set k (some x)))
    (hs : ∀ c ∈ a.cps.toList, ∀ H', Same H H' → Pu te ((fr σ).set k (some (.str ⟨#[c]⟩))) H' (f c)) : Gv (tComp (iStr tl) fr (gName k) te) σ H (fun v H' => ∃ D, H D = none ∧ v = .ref D ∧ H' = upd H D (.lst (a.cps.toList.map f))) := by
  intro Q g
  refine hl _ ⟨a, rfl, ha, fun D hD => ?_⟩
  refine ⟨fun i m ys H' => m = a.length - i ∧ i ≤ a.length ∧ ys = (a.cps.toList.take i).map f ∧ H' = upd H D (.lst ys), ⟨_, rfl, Nat.zero_le _, rfl, rfl⟩, ?_⟩
  rintro i m ys H' ⟨rfl, hi, rfl, rfl⟩
  have s' : Same H (upd H D (.lst ((a.cps.toList.take i).map f))) := Same.upd hD
  by_cases hlt : i < a.length
  · refine .inr ⟨hlt, ?_, fun x H3 y => ?_⟩
    · rw [List.length_map, List.length_take]; exact small1000 (by omega)
    obtain ⟨e, c, ex, e2⟩ := y
    subst e e2
    refine ⟨hk _, hs c (List.mem_of_getElem? ex) _ s' _ ⟨upd_same, a.length - (i + 1), by omega, rfl, hlt, ?_, ?_⟩⟩
    · rw [List.take_succ, ex]; simp
    · rw [upd_upd]
  · have e : i = a.length := by omega
    subst e
    refine .inl ⟨Nat.le_refl _, g _ _ ⟨D, hD, rfl, ?_⟩⟩
    rw [← len_list, List.take_length]
end
end L2

set_option linter.all false
set_option maxRecDepth 100000
set_option maxHeartbeats 4000000
namespace L2
open PySem PySem.Spec PyProof.Rows
/-! ### a comprehension whose element may raise -/
section
variable {M : Model} {A : Around} {s : Shared} {env : Env} {E : Value → Shared → Prop}
def compPostX (M : Model) (A : Around) (E : Value → Shared → Prop) (Q : Value → Shared → Prop) (acc : Value) (cenv : Env) (r : Result) (s' : Shared) : Prop :=
  ∃ m, s'.heap.Ns cenv.locals m ∧ ∀ h', Heap.SameBut cenv.locals s'.heap h' → match r with
  | .ok _ => Q acc { s' with heap := h' }
  | .error x => wpAny M A (PySem.passOn "comprehension.variables-let-go" x cenv : Sem Value) (fun _ _ => False) E { s' with heap := h' }
/-- the same promise, read from the inside: what runs the clauses -/
def inCompX (M : Model) (A : Around) (E : Value → Shared → Prop) (Q : Value → Shared → Prop) (e : Expr) (scope : Scope) (env : Env) (it acc : Value) (cenv : Env) (s : Shared) : Prop :=
  codeAny M A (.compStart e 0 it acc { cenv with scope := relabel scope env }) (compPostX M A E Q acc { cenv with scope := relabel scope env }) s
theorem comp_freeX {e : Expr} {pos : Pos} {scope : Scope} {first newAcc : Sem Value} {c : Comprehension} {cs : List Comprehension} {cl : List (Str × Addr)} {Q : Value → Shared → Prop}
    (hcl : clausesOf e = c :: cs) (hs : ∀ x, foldedSetIterable c.iter env x = pure x) (hclos : closureFor scope env = pure cl)
    (hkind : scope.kind = .function) (hnames : ∀ n ∈ scope.names, n.2 = .local → scope.names.lookup n.1 = some .local)
    (h : wpAny M A first (fun x s => wpAny M A (pyIter x) (fun it s => wpAny M A newAcc (fun acc s => wpAny M A (newFunctionEnv scope env.globals cl [] env.qual none .none (some env)) (inCompX M A E Q e scope env it acc) E s) E s) E s) E s) :
    wpAny M A (comprehension e scope env pos newAcc false first none) Q E s := by
  have same : ∀ {x : Value} {s : Shared}, E x s → E x s := id
  unfold comprehension
  rw [hcl, hclos]
  refine wpAny_bind (wpAny_mono h (fun x _ a => ?_) fun _ _ => same)
  refine wpAny_bind (wpAny_standAt ?_)
  refine wpAny_bind (wpAny_of_eq (hs x) ?_)
  refine wpAny_bind (wpAny_holding ?_)
  refine wpAny_mono a (fun it _ b => ?_) fun _ _ => same
  refine wpAny_standIf (wpAny_bind ?_)
  refine wpAny_mono b (fun acc _ d => ?_) fun _ _ => same
  refine wpAny_bind (wpAny_pure (wpAny_bind ?_))
  refine wpAny_mono d (fun cenv _ g => ?_) fun _ _ => same
  dsimp only
  refine wpAny_holding (wpAny_bind (wpAny_attempt (wpAny_holding (wpAny_run (codeAny_mono g ?_)))))
  rintro r s' ⟨m, hn, hr⟩
  have ok : ∀ p, ∀ n ∈ (scope.names.filter p).reverse, n.2 = .local → Env.kindOf { cenv with scope := relabel scope env } n.1 = some .local := fun p n i l => lookup_relabel_local (hnames n (List.mem_filter.mp (List.mem_reverse.mp i)).1 l)
  cases r
  case ok => exact wpAny_bind (wpAny_holding (wpAny_comp_letGo (cenv := { cenv with scope := relabel scope env }) hkind _ s' m (ok _) hn fun h' _ _ k => wpAny_pure (hr h' k)))
  case error => exact wpAny_bind (wpAny_holding (wpAny_comp_letGo (cenv := { cenv with scope := relabel scope env }) hkind _ s' m (ok _) hn fun h' _ _ k => wpAny_mono (hr h' k) (fun _ _ f => f.elim) fun _ _ => same))
end
/-! the heap behind a raise within a comprehension -/
theorem funFrames_sub {h B B0 : Heap} (k : ∀ b, B.get? b = none → B0.get? b = none) : ∀ {l : List Env}, h.FunFrames B l → h.FunFrames B0 l
  | [], _ => trivial
  | env :: r, ⟨h1, ⟨L, o, h2, h3, h4, h5⟩, h6⟩ => ⟨h1, ⟨L, o, h2, k _ h3, h4, h5⟩, funFrames_sub k h6⟩
theorem funFrames_but {h h' B : Heap} {C : Addr} (sb : Heap.SameBut C h h') : ∀ {l : List Env}, (∀ b ∈ frs l, b ≠ C) → h.FunFrames B l → h'.FunFrames B l
  | [], _, _ => trivial
  | env :: r, hn, ⟨h1, ⟨L, o, h2, h3, h4, h5⟩, h6⟩ => by
    have hL : L ∈ frs (env :: r) := by unfold frs; rw [List.filterMap_cons, h2]; exact List.mem_cons_self
    refine ⟨h1, ⟨L, o, h2, h3, (sb.2 L (hn L hL)).trans h4, h5⟩, funFrames_but sb (fun b hb => hn b ?_) h6⟩
    unfold frs at hb ⊢
    rw [List.filterMap_cons, h2]
    exact List.mem_cons_of_mem _ hb
theorem funFrames_get {h h' B : Heap} (k : ∀ b, h'.get? b = h.get? b) : ∀ {l : List Env}, h.FunFrames B l → h'.FunFrames B l
  | [], _ => trivial
  | env :: r, ⟨h1, ⟨L, o, h2, h3, h4, h5⟩, h6⟩ => ⟨h1, ⟨L, o, h2, h3, (k L).trans h4, h5⟩, funFrames_get k h6⟩
/-- the ground without the comprehension's own names -/
theorem flying_sub {h B B0 : Heap} {l : List Env} {e : Addr} {cls a0 : Value} (k : ∀ b o, B0.get? b = some o → B.get? b = some o) (x : Heap.FlyingW B l e cls a0 h) : Heap.FlyingW B0 l e cls a0 h := by
  have k' : ∀ b, B.get? b = none → B0.get? b = none := fun b hb => by
    cases e : B0.get? b with
    | none => rfl
    | some o => rw [k b o e] at hb; cases hb
  obtain ⟨x1, x2, x3, oe, vs, T, oT, ts, he, hc, hd, h1, hnT, r⟩ := x
  exact ⟨fun b o q => x1 b o (k b o q), k' _ x2, funFrames_sub k' x3, oe, vs, T, oT, ts, he, hc, hd, h1, k' _ hnT, r⟩
theorem held_but {h h' B : Heap} {l : List Env} {e L C : Addr} {cls a0 : Value} (sb : Heap.SameBut C h h') (hB : B.get? C = none) (hf : ∀ b ∈ frs l, b ≠ C) (hC : ∃ o es ep, h.get? C = some o ∧ o.data = .dict es ep) (x : Heap.HeldW B l e cls a0 L h) : Heap.HeldW B l e cls a0 L h' := by
  obtain ⟨x1, x2, x3, oe, vs, T, oT, ts, he, hc, hd, h1, hnT, hTe, hT, hdT, h3⟩ := x
  obtain ⟨o, es, ep, ho, hod⟩ := hC
  have ne : e ≠ C := fun z => by
    rw [z, ho] at he
    cases he
    rw [hod] at hd
    cases hd
  have nT : T ≠ C := fun z => by
    rw [z, ho] at hT
    cases hT
    rw [hod] at hdT
    cases hdT
  refine ⟨fun b o q => (sb.2 b fun z => ?_).trans (x1 b o q), x2, funFrames_but sb hf x3, oe, vs, T, oT, ts, (sb.2 e ne).trans he, hc, hd, h1, hnT, hTe, (sb.2 T nT).trans hT, hdT, h3⟩
  rw [z, hB] at q
  cases q
theorem held_get {h h' B : Heap} {l : List Env} {e L : Addr} {cls a0 : Value} (k : ∀ b, h'.get? b = h.get? b) (x : Heap.HeldW B l e cls a0 L h) : Heap.HeldW B l e cls a0 L h' := by
  obtain ⟨x1, x2, x3, oe, vs, T, oT, ts, he, hc, hd, h1, hnT, hTe, hT, hdT, h3⟩ := x
  exact ⟨fun b o q => (k b).trans (x1 b o q), x2, funFrames_get k x3, oe, vs, T, oT, ts, (k e).trans he, hc, hd, h1, hnT, hTe, (k T).trans hT, hdT, h3⟩
/-- passed on where it is at hand already: nothing turns -/
theorem passOn_held {M : Model} {A : Around} {E : Value → Shared → Prop} {s : Shared} {what : String} {B : Heap} {l : List Env} {env : Env} {e L : Addr} {cls a0 : Value} {α : Type} {Q : α → Shared → Prop} (hf : env.frame = some L) (x : Heap.HeldW B l e cls a0 L s.heap)
    (h : ∀ h', (∀ b, h'.get? b = s.heap.get? b) → E (.ref e) { s with heap := h' }) : wpAny M A (PySem.passOn what (.ref e) env : Sem α) Q E s := by
  obtain ⟨x1, x2, x3, oe, vs, T, oT, ts, he, hc, hd, h1, hnT, hTe, hT, hdT, h3⟩ := x
  unfold PySem.passOn
  refine wpAny_bind (wpAny_field he hd h1 ?_)
  rw [if_neg (show ¬ ((Value.ref T == Value.none) = true) from by simp)]
  refine wpAny_bind ?_
  unfold setFlight
  refine wpAny_bind (wpAny_field he hd h1 ?_)
  rw [if_pos (show (Value.ref T != Value.none) = true from by simp), hf]
  refine wpAny_setField hT hdT (Array.getElem?_eq_some_iff.mp h3).1 (wpAny_throw (h _ fun b => ?_))
  by_cases z : b = T
  · subst z
    rw [Heap.get?_update_self _ hT (Obj.isFreed_of_fields (Obj.data_mapFields hdT _)), hT]
    congr 1
    obtain ⟨c, d, dt, sl⟩ := oT
    simp only at hdT
    subst hdT
    show Obj.mk c d (.fields (ts.setIfInBounds 3 (rawInt L))) sl = Obj.mk c d (.fields ts) sl
    have e : ts.setIfInBounds 3 (rawInt L) = ts := by
      obtain ⟨hlt, hv⟩ := Array.getElem?_eq_some_iff.mp h3
      apply Array.ext
      · simp
      · intro i h1 h2
        by_cases z : 3 = i
        · subst z
          rw [Array.getElem_setIfInBounds_self]
          exact hv.symm
        · rw [Array.getElem_setIfInBounds_ne (by simpa using h1) z]
    rw [e]
  · exact Heap.get?_update_other _ _ (Ne.symm z)
section
variable {P : Program} {w : World} {K : PySem.W.Frag} {mg : Str → Option Value} {base : Heap} {N : List Str} {qual : Str} {scope : Scope} {f : Addr} {cd : Value} {A : Around} {outer : List Env} {s : Shared} {H : Hp} {E : XK}
/-- what a raise within the comprehension's block tells -/
def blkE (P : Program) (w : World) (X : Cx) (E : XK) (N' : List Str) (sc : Scope) (cl : List (Str × Addr)) (C : Addr) (fp : List Addr) (s0 : Shared) (H0 : Hp) : Value → Shared → Prop := fun e s' => ∃ pins σ H1 s1, Inv (blk X N' sc cl C fp s0 H0) pins σ H1 s1 ∧ CXE P w X.stack H1 s1 E e s'
theorem passB {X : Cx} {N' : List Str} {sc : Scope} {cl : List (Str × Addr)} {C : Addr} {fp : List Addr} {s0 : Shared} {H0 : Hp} : Passes (CXE P w) ((blk X N' sc cl C fp s0 H0).wish (blkE P w X E N' sc cl C fp s0 H0)) E := fun pins σ H1 s1 e s' I h => ⟨pins, σ, H1, s1, I.unwish, h⟩
theorem comp_raise {N' : List Str} {sc : Scope} {cl : List (Str × Addr)} {fp : List Addr} {s3 : Shared} {H3 : Hp} {pins : List (Addr × Obj)} {σ : St} {e : Value} {s' : Shared} {Q : Value → Shared → Prop} {acc : Value}
    (I3 : Inv (cxOf (CXE P w) P w K mg base N qual scope f cd A outer s H E) pins σ H3 s3) (hfp : ∀ b ∈ fp, s.heap.objs.size ≤ b)
    (h : blkE P w (cxOf (CXE P w) P w K mg base N qual scope f cd A outer s H E) E N' sc cl s3.heap.objs.size fp s3 H3 e s') :
    notedBy (model P w) (cxOf (CXE P w) P w K mg base N qual scope f cd A outer s H E).A (compEnvC sc cl s3.heap.objs.size (cxOf (CXE P w) P w K mg base N qual scope f cd A outer s H E).env)
      (fun x s'' => compPostX (model P w) (cxOf (CXE P w) P w K mg base N qual scope f cd A outer s H E).A (cxOf (CXE P w) P w K mg base N qual scope f cd A outer s H E).xe Q acc (compEnvC sc cl s3.heap.objs.size (cxOf (CXE P w) P w K mg base N qual scope f cd A outer s H E).env) (.error x) s'') e s' := by
  obtain ⟨pins1, σ1, H1, s1, I1, ea, t, H2, cls, B, rfl, os, bare, hE, fl, L⟩ := h
  have hC1 : H1 s3.heap.objs.size = none := I1.free
  obtain ⟨m1, ⟨oC, es, ep, hoC, hdC, hkC, hmC⟩, _⟩ := I1.loc
  have hCfs : s3.heap.objs.size ∉ frs (envOfC qual scope s.heap.objs.size f cd :: outer) := fun z => by
    have z' : s3.heap.objs.size ∈ s.heap.objs.size :: frs outer := z
    rcases List.mem_cons.mp z' with q | q
    · have : s.heap.objs.size < s3.heap.objs.size := I3.lt
      rw [q] at this
      exact absurd this (Nat.lt_irrefl _)
    · exact I3.nofs (Nat.le_refl _) q
  have hCB : B.get? s3.heap.objs.size = some oC := L.keep _ _ hoC hC1 hCfs
  have sub : ∀ b o, (PySem.W.hideAll B [s3.heap.objs.size]).get? b = some o → B.get? b = some o := fun b o q => PySem.W.of_hideAll _ q
  have get : ∀ {b o}, B.get? b = some o → b ≠ s3.heap.objs.size → (PySem.W.hideAll B [s3.heap.objs.size]).get? b = some o := fun q n => PySem.W.hideAll_get _ q (by simpa using n)
  have hno : (PySem.W.hideAll B [s3.heap.objs.size]).get? s3.heap.objs.size = none := PySem.W.hideAll_none _ (by simp)
  have fl0 := flying_sub sub fl
  show wpAny (model P w) _ (noteFrame (.ref ea) (envOfC qual scope s.heap.objs.size f cd)) _ _ s'
  refine wpAny_looks_onW I3.ok.frames rfl fl0 fun h' held up => ?_
  obtain ⟨slC, hC'⟩ := up s3.heap.objs.size oC (fl.1 _ _ hCB) (fun vs z => by rw [hdC] at z; cases z)
  refine ⟨m1, ⟨_, es, ep, hC', hdC, hkC, hmC⟩, fun h'' sb => ?_⟩
  have sb' : Heap.SameBut s3.heap.objs.size h' h'' := sb
  have held2 := held_but sb' hno (fun b hb z => hCfs (by rw [← z]; exact hb)) ⟨_, es, ep, hC', hdC⟩ held
  refine passOn_held (s := { s' with heap := h'' }) (L := s.heap.objs.size) rfl held2 fun h3 k3 => ?_
  have held3 := held_get k3 held2
  show wpAny (model P w) _ (leaving (envOfC qual scope s.heap.objs.size f cd) (.ref ea)) _ _ _
  unfold leaving
  refine wpAny_bind (wpAny_noteFrame_againW rfl held3.2.2.2 ?_)
  refine wpAny_landsW held3 fun h4 fl4 up4 => ?_
  have lt3 : s.heap.objs.size < s3.heap.objs.size := I3.lt
  have nC : ∀ {b o}, s.heap.get? b = some o → b ≠ s3.heap.objs.size := fun {b o} q z => by
    have := Heap.lt_size q
    rw [z] at this
    exact absurd (Nat.lt_trans this lt3) (Nat.lt_irrefl _)
  have nfp : ∀ {b o}, s.heap.get? b = some o → b ∉ fp := fun {b o} q z => absurd (Heap.lt_size q) (Nat.not_lt.mpr (hfp b z))
  have nf : ∀ {b : Addr} {o : Obj}, s.heap.get? b = some o → b ∉ frs outer → b ∉ frs (envOfC qual scope s.heap.objs.size f cd :: outer) := fun {b o} e n z => by
    have z' : b ∈ s.heap.objs.size :: frs outer := z
    rcases List.mem_cons.mp z' with q | q
    · exact absurd (Heap.lt_size e) (by rw [q]; exact Nat.lt_irrefl _)
    · exact n q
  have inn : ∀ {b : Addr}, b ∈ frs outer → b ∈ frs (envOfC qual scope s.heap.objs.size f cd :: outer) := fun {b} h => by
    show b ∈ s.heap.objs.size :: frs outer
    exact List.mem_cons_of_mem _ h
  have f3 : ∀ b o, s.heap.get? b = some o → H b = none → H3 b = none := fun b o q n => I3.base.free b o q n (by exact List.not_mem_nil)
  have f1 : ∀ b o, s.heap.get? b = some o → H b = none → H1 b = none := fun b o q n => by
    obtain ⟨sl, z⟩ := I3.base.any q n List.not_mem_nil
    exact I1.base.free b _ z (f3 b o q n) (nfp q)
  obtain ⟨y1, y2, ⟨_, _, y3⟩, y4⟩ := fl4
  refine ⟨ea, t, H2, cls, PySem.W.hideAll B [s3.heap.objs.size], rfl, os.trans (I1.os.trans I3.os), bare, hE, ⟨y1, y2, y3, y4⟩, ⟨fun a o q => ?_, L.new, fun b o q n hb => ?_, fun b o q n hb => ?_, fun b o q hb => ?_, fun b o q n => ?_, fun b xs q => L.tups b xs (I1.base.tups b xs (I3.base.tups b xs q)), fun b o u q => L.frzs b o u (I1.base.frzs b o u (I3.base.frzs b o u q)), fun b ps q => ?_⟩⟩
  · have hC2 : H2 s3.heap.objs.size = none := L.free _ _ hoC hC1
    refine (L.hok a o q).stay (fun b u hb z => get z fun hm => ?_) (fun _ z => z) fun _ _ z => z
    rw [← hm] at hC2
    rcases hb with rfl | hb
    · rw [q] at hC2; cases hC2
    · rw [hb] at hC2; cases hC2
  · have q3 := I3.base.keep b o q n hb List.not_mem_nil
    have q1 := I1.base.keep b o q3 (f3 b o q n) (nf q hb) (nfp q)
    exact get (L.keep b o q1 (f1 b o q n) (nf q hb)) (nC q)
  · obtain ⟨sl, z⟩ := I3.base.slot b o q n hb List.not_mem_nil
    obtain ⟨sl1, z1⟩ := I1.base.slot b _ z (f3 b o q n) (inn hb) (nfp q)
    obtain ⟨sl2, z2⟩ := L.slot b _ z1 (f1 b o q n) (inn hb)
    obtain ⟨_, o', ho', hd'⟩ := I3.ok.funs.mem hb
    rw [show (cxOf (CXE P w) P w K mg base N qual scope f cd A outer s H E).s₀.heap.get? b = some o from q] at ho'
    cases ho'
    obtain ⟨sl3, z3⟩ := up b _ z2 hd'
    have z4 : h3.get? b = _ := (k3 b).trans ((sb'.2 b (nC q)).trans z3)
    obtain ⟨sl4, z5⟩ := up4 b _ z4 hd'
    exact ⟨sl4, z5⟩
  · obtain ⟨o3, z3⟩ := I3.base.there b o q List.not_mem_nil
    obtain ⟨o1, z1⟩ := I1.base.there b o3 z3 (nfp q)
    obtain ⟨o2, z2⟩ := L.there b o1 z1 (nf q hb)
    exact ⟨o2, get z2 (nC q)⟩
  · obtain ⟨sl, z⟩ := I3.base.any q n List.not_mem_nil
    obtain ⟨sl1, z1⟩ := I1.base.any z (f3 b o q n) (nfp q)
    exact L.free b _ z1 (f1 b o q n)
  · obtain ⟨m1, z1⟩ := I3.base.tbls b ps q
    obtain ⟨m2, z2⟩ := I1.base.tbls b _ z1
    obtain ⟨m3, z3⟩ := L.tbls b _ z2
    exact ⟨m1 ++ m2 ++ m3, by rw [z3]; simp⟩
end
theorem pe_lcompX {P : Program} {w : World} {K : PySem.W.Frag} {mg : Str → Option Value} {base : Heap} {N : List Str} {qual : Str} {fsc : Scope} {f : Addr} {cd : Value} {A : Around} {outer : List Env} {s₀ : Shared} {H₀ : Hp} {E : XK} {X : Cx} (hX : X = cxOf (CXE P w) P w K mg base N qual fsc f cd A outer s₀ H₀ E) {tg elt iter : Expr} {scope : Scope} {cl : List (Str × Addr)} {pos : Pos} {N' : List Str} {wi : TI} {fr : St → St} {g : TG} {te : TE}
    (hc : X.calm = true) (hi : PI X tg iter wi)
    (hg : ∀ C fp s0 H0, PG (blk X N' scope cl C fp s0 H0) tg g) (he : ∀ C fp s0 H0, PE ((blk X N' scope cl C fp s0 H0).wish (blkE P w X E N' scope cl C fp s0 H0)) elt te)
    (hclos : closureFor scope X.env = pure cl) (hkind : scope.kind = .function) (hnames : ∀ x ∈ scope.names, x.2 = .local → scope.names.lookup x.1 = some .local) (hcell : ∀ y ∈ scope.names, y.2 ≠ .cell)
    (hcl : ∀ y c, cl.lookup y = some c → X.env.cells.lookup y = some c) (hhas : ∀ y, ((relabel scope X.env).names.lookup y = some .cell ∨ (relabel scope X.env).names.lookup y = some .free) → ∃ c, cl.lookup y = some c)
    (hfl : ∀ σ : St, σ.length = X.N.length → (fr σ).length = N'.length)
    (hfr : ∀ (σ : St) (i : Nat) (y : Str) (v : V), N'[i]? = some y → (fr σ)[i]? = some (some v) → ∃ j : Nat, X.N[j]? = some y ∧ σ[j]? = some (some v) ∧ X.env.kindOf y = some .cell ∧ (relabel scope X.env).names.lookup y = some .cell)
    (hs : ∀ x, foldedSetIterable iter X.env x = pure x := by intro _; rfl) :
    PE X (.ListComp elt [⟨tg, iter, [], 0⟩] scope pos) (tComp wi fr g te) := by
  intro pins s σ H Q I h
  rw [eval_ListComp]
  refine comp_freeX rfl hs hclos hkind hnames ?_
  refine thn (hi pins s σ H _ I h) fun v s1 h1 => thn h1 fun itv s2 h2 => ?_
  obtain ⟨it, fp, tn, J, H2, rfl, I2, T, st2, f2, q2⟩ := h2
  have D0 : H2 s2.heap.objs.size = none := I2.hok.fresh (Nat.le_refl _)
  obtain ⟨W, ⟨m0, w0⟩, turn⟩ := q2 _ D0
  refine wpAny_newObj_type (wpAny_newFunctionEnv hcell (by intro y hy; simp at hy) (fun h₁ hns₁ hsb₁ => ?_) hkind)
  dsimp only at hns₁ hsb₁ ⊢
  have I3 : Inv X pins σ (upd H2 s2.heap.objs.size (.lst [])) { s2 with heap := s2.heap.push { cls := .type "list", dict := none, data := .seq ([] : List Value).toArray } } :=
    I2.laid (t' := s2.toks) (fun b u e => Heap.get?_push_of_some _ e) (Nat.le_refl _) ⟨Nat.zero_le _, [], _, .nil, Heap.get?_push_size _ rfl⟩
  generalize hH3 : upd H2 s2.heap.objs.size (.lst []) = H3 at I3 w0
  generalize hs3 : ({ s2 with heap := s2.heap.push { cls := .type "list", dict := none, data := .seq ([] : List Value).toArray } } : Shared) = s3 at I3
  have eh : s3.heap = s2.heap.push { cls := .type "list", dict := none, data := .seq ([] : List Value).toArray } := by rw [← hs3]
  have fl : ∀ b ∈ fp, b < s2.heap.objs.size := fun b hb => by
    obtain ⟨o, e, _⟩ := T.obj 0 _ st2 b hb
    exact Heap.lt_size e
  have fn : ∀ b ∈ fp, H3 b = none := fun b hb => by
    rw [← hH3, upd_ne (Nat.ne_of_lt (fl b hb))]; exact (f2 b hb).1
  have hfp : ∀ b ∈ fp, s₀.heap.objs.size ≤ b := fun b hb => by
    have := (f2 b hb).2.2.2.1
    subst hX
    rcases this with z | z
    · cases z
    · exact z
  have f3 : ∀ b ∈ fp, FpOk X pins H3 b := fun b hb => ⟨fn b hb, (f2 b hb).2⟩
  have old : ∀ b u, s3.heap.get? b = some u → h₁.get? b = some u := fun b u e => by
    refine hsb₁.extBut b u ?_ (Heap.get?_push_of_some _ (by rw [← eh]; exact e))
    have := Heap.lt_size e
    rw [eh] at this
    exact Nat.ne_of_lt this
  have up : ∀ b u, s2.heap.get? b = some u → s3.heap.get? b = some u := fun b u e => by rw [eh]; exact Heap.get?_push_of_some _ e
  have ok := blk_ok (N' := N') (scope := scope) (cl := cl) (fp := fp) I3 hkind hcl hhas f3 fun b hb => by rw [eh, Heap.size_push]; exact Nat.lt_succ_of_lt (fl b hb)
  rw [← eh] at hns₁ ⊢
  have IB : Inv (blk X N' scope cl s3.heap.objs.size fp s3 H3) [] (fr σ) H3 { s3 with heap := h₁, toks := s2.toks + ([] : List (Str × Value)).length } := by
    refine ⟨ok, rfl, I3.bare, Un.kept old, ⟨_, hns₁, fun i y v e1 e2 e3 => ?_⟩, fun x c e => ?_, I3.hok.fresh (Nat.le_refl _), fun x c e => I3.freeC x c (hcl x c e), fun p hp => by simp [blk] at hp, I3.hok.kept old, hfl σ I3.len⟩
    · obtain ⟨j, n1, n2, n3, n4⟩ := hfr σ i y v e1 e2
      obtain ⟨m, _, hl⟩ := I3.loc
      obtain ⟨u, r, l⟩ := hl j y v n1 n2 (.inr (.inl n3))
      refine ⟨u, r, .inr ⟨.inl n4, ?_⟩⟩
      rcases l with ⟨k, _⟩ | ⟨_, c, e, ic⟩
      · rw [n3] at k; cases k
      · obtain ⟨c', e'⟩ := hhas y (.inl n4)
        have e'' := hcl y c' e'
        rw [e] at e''; cases e''
        obtain ⟨o, ho, hd⟩ := ic
        exact ⟨c, e', o, old c o ho, hd⟩
    · obtain ⟨v, o, ho, hd⟩ := I3.cell x c (hcl x c e)
      exact ⟨v, o, old c o ho, hd⟩
  have stB : tn 0 h₁ := T.keep _ _ _ st2 fun b hb o e => old b o (up b o e)
  have D2 : s2.heap.objs.size < s3.heap.objs.size := by rw [eh, Heap.size_push]; exact Nat.lt_succ_self _
  have stat : ∀ {H' : Hp}, (∀ b ∈ fp, H' b = none) → ∀ b ∈ fp, FpOk (blk X N' scope cl s3.heap.objs.size fp s3 H3) [] H' b := fun hn b hb =>
    ⟨hn b hb, Nat.ne_of_lt (Nat.lt_trans (fl b hb) D2), ok.exfs b hb, .inl hb, fun x c e => (ok.exf b hb).2 x c e, fun p hp => by simp [blk] at hp⟩
  have loop : codeAny (model X.prog X.w) X.A (.compLoop (.ListComp elt [⟨tg, iter, [], 0⟩] scope pos) 0 (.ref it) (.ref s2.heap.objs.size) (compEnvC scope cl s3.heap.objs.size X.env))
      (compPostX (model X.prog X.w) X.A X.xe (EP X pins σ Q) (.ref s2.heap.objs.size) (compEnvC scope cl s3.heap.objs.size X.env)) { s3 with heap := h₁, toks := s2.toks + ([] : List (Str × Value)).length } := by
    refine codeAny_loop rfl (fun n s' => ∃ i ys H', Inv (blk X N' scope cl s3.heap.objs.size fp s3 H3) [] (fr σ) H' s' ∧ tn i s'.heap ∧ (∀ b ∈ fp, H' b = none) ∧ W i n ys H') ?_ m0 ⟨0, [], H3, IB, stB, fn, w0⟩
    rintro n s4 ⟨i, ys, H4, I4, st4, fr4, w4⟩
    show wpAny _ _ ((compTurn (.ListComp elt [⟨tg, iter, [], 0⟩] scope pos) 0 (.ref it) (.ref s2.heap.objs.size) (compEnvC scope cl s3.heap.objs.size X.env)).onRaise (fun x => do noteFrame x (compEnvC scope cl s3.heap.objs.size X.env); theTreesLotGoes x)) _ _ s4
    refine wpAny_noted ?_
    rw [compTurn_list1]
    refine wpAny_bind (wpAny_standAt (wpAny_bind ?_))
    rcases turn i n ys H4 w4 with ⟨stop, qn⟩ | ⟨go, hz, step⟩
    · refine thn (T.done (blk X N' scope cl s3.heap.objs.size fp s3 H3) rfl rfl rfl hc i [] s4 (fr σ) H4 _ I4 (stat fr4) st4 stop) fun r s5 ⟨hr, I5⟩ => ?_
      subst hr
      refine wpAny_pure ?_
      obtain ⟨m, hn, _⟩ := I5.loc
      refine ⟨m, hn, fun h' sb => ⟨.ref s2.heap.objs.size, H4, ?_, rfl, qn⟩⟩
      have hb : ∀ b u, b ≠ s3.heap.objs.size → s5.heap.get? b = some u → h'.get? b = some u := fun b u n e => sb.extBut b u n e
      have hlt : ∀ b u, s3.heap.get? b = some u → b ≠ s3.heap.objs.size := fun b u e => Nat.ne_of_lt (Heap.lt_size e)
      have B := I5.base
      refine I3.call' (s' := { s5 with heap := h' }) (ch := fp) I5.os ⟨fun b o e n1 n2 n3 => hb b o (hlt b o e) (B.keep b o e n1 n2 n3), fun b o e n1 n2 n3 => ?_, B.free, fun b o e n1 => ?_, B.tups, B.frzs, B.tbls⟩ (fun a o e => ?_) I5.bare (fun b hb' => ?_)
      · obtain ⟨sl, z⟩ := B.slot b o e n1 n2 n3
        exact ⟨sl, hb b _ (hlt b o e) z⟩
      · obtain ⟨o', z⟩ := B.there b o e n1
        exact ⟨o', hb b _ (hlt b o e) z⟩
      · have nC : ∀ c u, H4 c = some u → c ≠ s3.heap.objs.size := fun c u z w => by
          have := I5.free
          rw [show (blk X N' scope cl s3.heap.objs.size fp s3 H3).env.locals = s3.heap.objs.size from rfl, ← w, z] at this
          cases this
        refine (I5.hok a o e).stay (fun c u hcu q => hb c u ?_ q) (fun _ q => q) fun _ _ q => q
        rcases hcu with z | z
        · rw [z]; exact nC a o e
        · exact nC c _ z
      · exact ⟨(f2 b hb').2.2.2.1, (f2 b hb').2.1, (f2 b hb').2.2.2.2.1, (f2 b hb').2.2.2.2.2⟩
    · refine thn (T.item (blk X N' scope cl s3.heap.objs.size fp s3 H3) rfl rfl rfl hc i [] s4 (fr σ) H4 _ I4 (stat fr4) st4 go) fun r s5 ⟨u, hr, h5⟩ => ?_
      subst hr
      refine wpAny_bind (thn h5 fun _ s6 ⟨x, H6, I6, r6, y6, st6, fr6⟩ => ?_)
      have I6' := I6.pinned (stat fr6) (T.obj _ _ st6)
      refine wpAny_bind (wpAny_mono (hg s3.heap.objs.size fp s3 H3 _ s6 (fr σ) H6 x u _ I6' r6 (step x H6 y6)) (fun _ s7 ⟨σ7, H7, I7, kp, q7⟩ => ?_) fun _ _ z => z.elim)
      refine wpAny_bind (wpAny_bind (wpAny_mono (he s3.heap.objs.size fp s3 H3 _ s7 σ7 H7 _ (I7.wish _) q7) (fun v8 s8 ⟨y8, H8, I8', r8, hD, m', hm, w8⟩ => ?_) fun e9 s9 z => by subst hX; exact comp_raise I3 hfp z))
      have I8 := I8'.unwish
      have ap := mt_append (X := blk X N' scope cl s3.heap.objs.size fp s3 H3) _ s8 σ7 H8 (.ref s2.heap.objs.size) [y8] (.ref s2.heap.objs.size) [v8] (fun _ H9 => W (i + 1) m' (ys ++ [y8]) H9) I8 rfl (.cons r8 .nil) ⟨_, ys, y8, rfl, rfl, hD, hz, w8⟩
      refine wpAny_bind (wpAny_mono ap (fun _ s9 ⟨_, H9, I9, _, w9⟩ => wpAny_pure (wpAny_pure ⟨rfl, m', hm, i + 1, ys ++ [y8], H9, ?_, ?_, ?_, w9⟩)) fun _ _ z => z.elim)
      · exact I9.unpinned.weak (by rw [kp.1]) kp.2
      · exact T.keep _ _ _ st6 fun b hb o e => (I9.pin (b, o) (List.mem_append_right _ (List.mem_append_right _ (mem_pinsAt hb e)))).1
      · intro b hb
        obtain ⟨o, e, d⟩ := T.obj _ _ st6 b hb
        exact (I9.pin (b, o) (List.mem_append_right _ (List.mem_append_right _ (mem_pinsAt hb e)))).2.1
  subst hs3
  exact codeAny_compStart_list loop (T.self X.A 0 _ _ _ stB loop)
end L2

set_option linter.all false
set_option maxRecDepth 100000
namespace L2
open PySem PySem.StrLaws PySem.Builtin PySem.Builtin.Str PyProof.Rows
/-! ### fractions, points and their texts -/
structure FrL (f : Int × Int) : Prop where
  pos : 0 < f.2
  cop : Int.gcd f.1 f.2 = 1
  b1 : Bd 700 f.1
  b2 : Bd 700 f.2
/-- short enough to be read -/
def FrS (f : Int × Int) : Prop := f.1.natAbs < 10 ^ 60 ∧ f.2.natAbs < 10 ^ 60
def ptF (x y : Int × Int) : Pt3 := pbF (x.1 * y.2) (y.1 * x.2) (x.2 * y.2)
theorem ptF_z {x y : Int × Int} (hx : FrL x) (hy : FrL y) : 0 < x.2 * y.2 := Int.mul_pos hx.pos hy.pos
theorem bd_log {n : Int} (h : Bd 1000 n) : n.natAbs.log2 < 1920 := Nat.lt_trans (h.log (by decide)) (by decide)
theorem tx_len4 {n : Int} (h : Bd 700 n) : (tx n).length ≤ 750 := by
  have : n.natAbs < 10 ^ 700 := Nat.lt_trans h (by decide +kernel)
  have := int_text_length_le10 (a := n) (k := 700) (by decide) this
  have e : (tx n).length = (toString n).length := by
    rw [← len_list]
    unfold tx
    rw [signs_ofString, List.length_map]
    rfl
  omega
/-- joined texts are not too long -/
theorem fold_le {sep : Str} {b : Nat} : ∀ (ts : List Str) (a : Nat), (∀ t ∈ ts, t.length ≤ b) → ts.foldl (fun n t => n + t.length + sep.length) a ≤ a + ts.length * (b + sep.length)
  | [], a, _ => by simp
  | t :: r, a, h => by
    have ih := fold_le (sep := sep) (b := b) r (a + t.length + sep.length) fun u hu => h u (List.mem_cons_of_mem _ hu)
    have ht := h t (by simp)
    rw [List.foldl_cons, List.length_cons, Nat.succ_mul]
    omega
theorem joinOk_of {sep : Str} {ts : List Str} {b m : Nat} (h : ∀ t ∈ ts, t.length ≤ b) (hm : ts.length ≤ m) (hb : m * (b + sep.length) ≤ 16000000) : PySem.JoinOk sep ts = true := by
  have h1 := fold_le (sep := sep) ts 0 h
  have h2 : ts.length * (b + sep.length) ≤ m * (b + sep.length) := Nat.mul_le_mul_right _ hm
  unfold PySem.JoinOk Builtin.Str.tooLong
  rw [List.foldl_toArray']
  · rw [Bool.not_eq_true', decide_eq_false_iff_not]
    have : sizeLine = 16777216 := by decide
    omega
  · rfl
theorem join_len {sep : Str} {b : Nat} : ∀ (ts : List Str), (∀ t ∈ ts, t.length ≤ b) → (Str.join sep ts).length ≤ ts.length * (b + sep.length)
  | [], _ => by show Str.empty.length ≤ _; exact Nat.zero_le _
  | [t], h => by
    have := h t (by simp)
    show t.length ≤ _
    simp only [List.length_cons, List.length_nil]
    omega
  | t :: u :: r, h => by
    have ih := join_len (sep := sep) (b := b) (u :: r) fun z hz => h z (List.mem_cons_of_mem _ hz)
    have ht := h t (by simp)
    show (t ++ sep ++ Str.join sep (u :: r)).length ≤ _
    rw [app_len, app_len, List.length_cons (a := t), Nat.succ_mul]
    omega
/-! ### readings of texts -/
section
variable {σ : St} {H : Hp} {te tl to : TE} {K : PySem.W.Frag}
/-- sep.join(what is laid) -/
theorem gv_join {a : Str} {R R' : V → Hp → Prop} (ho : ∀ H', Pu to σ H' (.str a)) (h : Gv tl σ H R) (hr : ∀ v H', R v H' → ∃ l ys, v = .ref l ∧ H' l = some (.lst (ys.map V.str)) ∧ PySem.JoinOk a ys = true ∧ R' (.str (Str.join a ys)) H') :
    Gv (tBM K "str" (fun x xs H Q => ∃ a l ys, x = .str a ∧ xs = [.ref l] ∧ SqL K H l (ys.map V.str) ∧ PySem.JoinOk a ys = true ∧ Q (.str (Str.join a ys)) H) to (tCons tl tNil)) σ H R' := fun Q q =>
  ho H _ ⟨rfl, h _ fun v H' r => by
    obtain ⟨l, ys, rfl, h1, h2, h3⟩ := hr v H' r
    exact ⟨a, l, ys, rfl, rfl, SqL.of h1, h2, q _ _ h3⟩⟩
/-- x.split(y) -/
theorem gv_split {a b : Str} {ts : List Str} {tb : TE} (ho : Pu to σ H (.str a)) (hb : Pu tb σ H (.str b)) (h1 : 1 ≤ b.length) (h2 : a.length ≤ sizeLine) (e : Txt.split a b = ts) (h3 : ts.length ≤ sizeLine) :
    Gv (tBM K "str" (fun x xs H Q => ∃ a b, x = .str a ∧ xs = [.str b] ∧ 1 ≤ b.length ∧ a.length ≤ sizeLine ∧ (Txt.split a b).length ≤ sizeLine ∧ ∀ p, H p = none → Q (.ref p) (upd H p (.lst ((Txt.split a b).map V.str)))) to (tCons tb tNil)) σ H (fun v H' => ∃ p, H p = none ∧ v = .ref p ∧ H' = upd H p (.lst (ts.map V.str))) := fun Q q =>
  ho _ ⟨rfl, hb _ ⟨a, b, rfl, rfl, h1, h2, by rw [e]; exact h3, fun p hp => by rw [e]; exact q _ _ ⟨p, hp, rfl, rfl⟩⟩⟩
/-- x.startswith(y) -/
theorem pu_starts {a b : Str} {tb : TE} (ho : Pu to σ H (.str a)) (hb : Pu tb σ H (.str b)) : Pu (tBM K "str" (fun x xs H Q => ∃ a b, x = .str a ∧ xs = [.str b] ∧ Q (.bl (decide (0 + b.length ≤ a.length) && Builtin.Str.subAt a b 0)) H) to (tCons tb tNil)) σ H (.bl (decide (0 + b.length ≤ a.length) && Builtin.Str.subAt a b 0)) := fun Q q =>
  ho _ ⟨rfl, hb _ ⟨a, b, rfl, rfl, q⟩⟩
theorem starts_one (a : Str) (c : Nat) : (decide (0 + (⟨#[c]⟩ : Str).length ≤ a.length) && Builtin.Str.subAt a ⟨#[c]⟩ 0) = decide (a.cps.toList[0]? = some c) := by
  rw [Bool.eq_iff_iff, Bool.and_eq_true, decide_eq_true_iff, decide_eq_true_iff]
  exact subAt_one a c 0
theorem pu_addS {ta tb : TE} {x y : Str} (ha : Pu ta σ H (.str x)) (hb : Pu tb σ H (.str y)) (hz : x.length + y.length ≤ sizeLine) : Pu (tOp (fun x y H Q => ∃ i j, x = .str i ∧ y = .str j ∧ i.length + j.length ≤ sizeLine ∧ Q (.str (i ++ j)) H) ta tb) σ H (.str (x ++ y)) := fun _ q => ha _ (hb _ ⟨x, y, rfl, rfl, hz, q⟩)
theorem pu_neStr {ta tb : TE} {x y : Str} (ha : Pu ta σ H (.str x)) (hb : Pu tb σ H (.str y)) : Pu (tOp rNe ta tb) σ H (.bl (!decide (x = y))) := fun _ q => ha _ (hb _ ⟨rfl, by
  have e : decide (V.str x = V.str y) = decide (x = y) := by
    by_cases z : x = y
    · simp [z]
    · simp [z]
  rw [e]
  exact q⟩)
theorem pu_eqStr {ta tb : TE} {x y : Str} (ha : Pu ta σ H (.str x)) (hb : Pu tb σ H (.str y)) : Pu (tOp rEq ta tb) σ H (.bl (decide (x = y))) := fun _ q => ha _ (hb _ ⟨rfl, by
  have e : decide (V.str x = V.str y) = decide (x = y) := by
    by_cases z : x = y
    · simp [z]
    · simp [z]
  rw [e]
  exact q⟩)
theorem pu_lenS {t : TA} {z : Str} (ha : PuA t σ H [.str z]) (hz : z.length ≤ sizeLine) : Pu (tCB (fun xs H Q => ∃ z, xs = [.str z] ∧ z.length ≤ sizeLine ∧ Q (.int z.length) H) t) σ H (.int z.length) := fun _ q => ha _ ⟨z, rfl, hz, q⟩
theorem pu_strI {t : TA} {i : Int} (ha : PuA t σ H [.int i]) (hb : Bd 1000 i) : Pu (tCB (fun xs H Q => ∃ i, xs = [.int i] ∧ i.natAbs.log2 < 1920 ∧ Q (.str (toString i)) H) t) σ H (.str (tx i)) := fun _ q => ha _ ⟨i, rfl, bd_log hb, q⟩
theorem pu_inS {ta tb : TE} {c : Nat} {y : Str} (ha : Pu ta σ H (.str ⟨#[c]⟩)) (hb : Pu tb σ H (.str y)) : Pu (tOp (fun x y H Q => ∃ i j, x = .str i ∧ y = .str j ∧ Q (.bl (!(Builtin.Str.occurrences j i 0 j.length 1).isEmpty)) H) ta tb) σ H (.bl (decide (c ∈ y.cps.toList))) := fun _ q => ha _ (hb _ ⟨_, _, rfl, rfl, by rw [found_one]; exact q⟩)
theorem pu_cut1 {a : Str} {tn : TO} (ho : Pu to σ H (.str a)) (h1 : 1 ≤ a.length) (h2 : a.length ≤ sizeLine) : Pu (tSl rSl1 to (tPart (tC (.int 1))) tNoPart) σ H (.str ⟨(a.cps.toList.drop 1).toArray⟩) := fun Q q =>
  ho _ ⟨1, rfl, a, rfl, rfl, rfl, h1, h2, q⟩
end
theorem gt_nt {te : TE} {σ : St} {H : Hp} {R : Hp → Prop} (h : Gv te σ H (fun v H' => v = .bl true ∧ R H')) : GvT (tNot (tB te)) σ H (fun b H' => b = false ∧ R H') := fun Q q => h _ fun v H' r => ⟨true, r.1, q _ _ ⟨rfl, r.2⟩⟩
/-! ### reading a number -/
theorem s_minus : Str.ofString "-" = ⟨#[45]⟩ := by decide +kernel
theorem s_zero : Str.ofString "0" = ⟨#[48]⟩ := by decide +kernel
theorem tx_neg' {n : Int} (h : n < 0) : (tx n).cps.toList = 45 :: Dg n.natAbs := by
  obtain ⟨m, hm, rfl⟩ : ∃ m : Nat, 0 < m ∧ n = -(m : Int) := ⟨n.natAbs, by omega, by omega⟩
  rw [tx_neg m hm]
  have : (-(m : Int)).natAbs = m := by omega
  rw [this]
theorem tx_pos' {n : Int} (h : 0 ≤ n) : (tx n).cps.toList = Dg n.natAbs := by
  obtain ⟨m, rfl⟩ := Int.eq_ofNat_of_zero_le h
  exact tx_pos m
/-! ### numbers too long to be read -/
end L2

set_option linter.all false
set_option maxRecDepth 100000
set_option maxHeartbeats 4000000
namespace L2
open PySem PySem.Spec PyProof.Rows
/-! ### a written dict of the top: words to objects of the top -/
def entOf (P : Params) (p : Str × Tok × Addr) : DictEntry := ⟨PyData.keyHash P p.1, .str p.1 p.2.1, .ref p.2.2⟩
def KTab (w : World) (K : PySem.W.Frag) (d : Addr) (l : List (Str × Tok × Addr)) : Prop := (d == sysModules) = false ∧ ∃ ep, K.lookup d = some ⟨.type "dict", none, .dict (l.map (entOf w.params)).toArray ep, #[]⟩
def tabV (l : List (Str × Tok × Addr)) (x : Str) : V := match l.find? (fun p => p.1 == x) with
  | some p => .ref p.2.2
  | none => .non
theorem find_tab {P : Params} {x : Str} : ∀ (l : List (Str × Tok × Addr)), (((l.map (entOf P)).find? fun e => Value.isStrOf x e.key).map DictEntry.val).getD .none = (match l.find? (fun p => p.1 == x) with | some p => Value.ref p.2.2 | none => .none)
  | [] => rfl
  | p :: l => by
    rw [List.map_cons, List.find?_cons, List.find?_cons]
    have e : Value.isStrOf x (entOf P p).key = (p.1 == x) := rfl
    rw [e]
    cases p.1 == x with
    | true => rfl
    | false => exact find_tab l
section
variable {X : Cx}
theorem pe_kget {x : Str} {d : Addr} {l : List (Str × Tok × Addr)} {e : Expr} {t : TA} {p1 apos cpos : Pos} (hT : KTab X.w X.K d l) (hm : X.mg x = some (.ref d)) (ha : PA X [e] t) (hg : Gl X x := by rfl) (hd : (x == ("__debug__" : Str)) = false := by decide)
    (hbase : attributeBase (.Name x p1) "get" X.env (eval (.Name x p1) X.env) = eval (.Name x p1) X.env := by rfl)
    (hfew : ((backTo cpos (starEach [e] X.env)).all (fun x => !x.1) && (backToKw cpos (keywordEach [] X.env)).all (fun x => x.1.isSome)
      && decide (([e] : List Expr).length + ([] : List Keyword).length + (if ([] : List Keyword).isEmpty then 0 else 1) < 30)) = true := by rfl)
    (hline : (apos.endLine == cpos.line) = true := by rfl) (hs : starEach [e] X.env = (false, eval e X.env) :: starEach [] X.env := by rfl) (hplain : (backTo cpos (starEach [] X.env)).any (·.1) = false := by rfl) :
    PE X (.Call (.Attribute (.Name x p1) "get" apos) [e] [] cpos) (fun σ H Q => t σ H fun xs H1 => ∃ z, xs = [.str z] ∧ Q (tabV l z) H1) := by
  intro pins s σ H Q I h
  obtain ⟨hsys, ep, hk⟩ := hT
  refine wpAny_Call_method_late hbase hfew hline rfl (ld_glob I hg hm ?_ hd)
  have hget := I.kIn _ _ hk
  refine ⟨"dict", "dict.get", PySem.F.plainAttrs_dict, PySem.F.slot_dict_get, PySem.F.type_dict_get, ⟨_, hget, rfl⟩, fun a e => ?_, ?_⟩
  · cases e
    exact ⟨_, hget, rfl⟩
  have hA := ha cpos pins s σ H _ I h
  rw [hs] at hA ⊢
  refine Calls.callWith_builtin (by show (false || (backTo cpos (starEach [] X.env)).any (·.1)) = false; rw [hplain] <;> rfl) (Calls.evalArgs_plain ?_)
  refine thn hA fun us s2 ⟨vs, H2, I2, r2, q2⟩ => ?_
  obtain ⟨z, rfl, q⟩ := q2
  obtain ⟨u, rfl, ru⟩ := vals1 r2
  obtain ⟨tk, rfl⟩ := ru
  have hget2 := I2.kIn _ _ hk
  refine call_meetsIn PySem.F.slot_dict_get (show s2.TypeIs (.ref d) "dict" from ⟨_, hget2, rfl⟩) PySem.F.entry_dict_get (PySem.F.args_dict_get_2 _ _) (meets_dict_get (strKind X.prog X.w) d (k := z) (by show (z == z) = true; exact beq_self_eq_true z) hsys) ⟨_, ⟨_, _, _, hget2, ⟨rfl, rfl, rfl⟩, rfl, fun e he => ?_, fun k => rfl⟩, tabV l z, H2, I2.tok _, ?_, q⟩
  · rw [List.mem_toArray] at he
    obtain ⟨p, _, rfl⟩ := List.mem_map.mp he
    exact ⟨p.1, beq_self_eq_true p.1, rfl⟩
  · have e : findBy (strKind X.prog X.w).is (l.map (entOf X.w.params)).toArray z = ((l.map (entOf X.w.params)).find? fun e => Value.isStrOf z e.key).map DictEntry.val := by
      unfold findBy
      rw [List.find?_toArray]
      rfl
    rw [e, find_tab]
    unfold tabV
    cases l.find? (fun p => p.1 == z) with
    | none => rfl
    | some p => rfl
end
/-! ### zip of two tuples, of the call or of the top -/
end L2

set_option linter.all false
set_option maxRecDepth 100000
set_option maxHeartbeats 4000000
namespace L2
open PySem PySem.Spec PyProof.Rows
/-! ### a loop whose body may raise -/
theorem cameBack_held {M : Model} {A : Around} {E : Value → Shared → Prop} {s : Shared} {B : Heap} {l : List Env} {env : Env} {e L : Addr} {cls a0 : Value} (hf : env.frame = some L) (x : Heap.HeldW B l e cls a0 L s.heap)
    (h : ∀ h', (∀ b, h'.get? b = s.heap.get? b) → E (.ref e) { s with heap := h' }) : cameBackBy M A env E (.ref e) s := by
  obtain ⟨x1, x2, x3, oe, vs, T, oT, ts, he, hc, hd, h1, hnT, hTe, hT, hdT, h3⟩ := x
  unfold cameBackBy
  refine wpAny_bind (wpAny_field he hd h1 ?_)
  show wpAny _ _ (ite ((Value.ref T == Value.none) = true) _ _) _ _ s
  rw [if_neg (c := (Value.ref T == Value.none) = true) (by exact Bool.false_ne_true), hf]
  unfold setFlight
  refine wpAny_bind (wpAny_field he hd h1 ?_)
  show wpAny _ _ (ite ((Value.ref T != Value.none) = true) _ _) _ _ s
  rw [if_pos (c := (Value.ref T != Value.none) = true) rfl]
  have hlt : 3 < ts.size := (Array.getElem?_eq_some_iff.mp h3).1
  refine wpAny_setField hT hdT hlt (h _ fun b => ?_)
  by_cases z : b = T
  · subst z
    rw [hT, Heap.get?_update_self _ hT (Obj.isFreed_of_fields (Obj.data_mapFields hdT _))]
    congr 1
    obtain ⟨c, d, dt, sl⟩ := oT
    simp only at hdT
    subst hdT
    show Obj.mk c d (.fields (ts.setIfInBounds 3 (rawInt L))) sl = Obj.mk c d (.fields ts) sl
    have e : ts.setIfInBounds 3 (rawInt L) = ts := by
      obtain ⟨hlt, hv⟩ := Array.getElem?_eq_some_iff.mp h3
      apply Array.ext
      · simp
      · intro i h1 h2
        by_cases z : 3 = i
        · subst z
          rw [Array.getElem_setIfInBounds_self]
          exact hv.symm
        · rw [Array.getElem_setIfInBounds_ne (by simpa using h1) z]
    rw [e]
  · exact Heap.get?_update_other _ _ (Ne.symm z)
section
variable {P : Program} {w : World} {K : PySem.W.Frag} {mg : Str → Option Value} {base : Heap} {N : List Str} {qual : Str} {scope : Scope} {f : Addr} {cd : Value} {A : Around} {outer : List Env} {s : Shared} {H : Hp} {E : XK}
/-- an exception in this frame, on its way or at hand -/
def ownE (P : Program) (w : World) (X : Cx) (E : XK) : Value → Shared → Prop := fun e s' => ∃ pins σ H1 s1, Inv X pins σ H1 s1 ∧ ∃ (ea t : Addr) (H2 : Hp) (cls : Value) (B : Heap), e = .ref ea ∧ s'.os = s1.os ∧ AllBare s'.gens ∧ E cls none H2 ∧
  (Heap.FlyingW B X.stack ea cls (.ref t) s'.heap ∨ ∃ L, X.env.frame = some L ∧ Heap.HeldW B X.stack ea cls (.ref t) L s'.heap) ∧ Lay P w X.stack H1 H2 s1 ea B s'.heap
theorem passO {X : Cx} : Passes (CXE P w) (X.wish (ownE P w X E)) E := fun pins σ H1 s1 e s' I ⟨ea, t, H2, cls, B, h1, h2, h3, h4, h5, h6⟩ => ⟨pins, σ, H1, s1, I.unwish, ea, t, H2, cls, B, h1, h2, h3, h4, .inl h5, h6⟩
theorem Lay.up {outer : List Env} {H H1 : Hp} {s : Shared} {ea : Addr} {B h h' : Heap} (L : Lay P w outer H H1 s ea B h) (k : ∀ b o, s.heap.get? b = some o → b ∈ frs outer → ∀ sl, h.get? b = some { o with slots := sl } → ∃ sl', h'.get? b = some { o with slots := sl' }) : Lay P w outer H H1 s ea B h' :=
  ⟨L.hok, L.new, L.keep, fun b o q n hb => by
    obtain ⟨sl, z⟩ := L.slot b o q n hb
    exact k b o q hb sl z, L.there, L.free, L.tups, L.frzs, L.tbls⟩
theorem passesOwnE : PassesOwn (model P w) (cxOf (CXE P w) P w K mg base N qual scope f cd A outer s H E).A (cxOf (CXE P w) P w K mg base N qual scope f cd A outer s H E).env (ownE P w (cxOf (CXE P w) P w K mg base N qual scope f cd A outer s H E) E) := by
  rintro e s' ⟨pins, σ, H1, s1, I, ea, t, H2, cls, B, rfl, os, bare, hE, fl, L⟩
  have fin : ∀ (h' : Heap), Heap.HeldW B (cxOf (CXE P w) P w K mg base N qual scope f cd A outer s H E).stack ea cls (.ref t) s.heap.objs.size h' → s'.heap.UpToSlots h' → cameBackBy (model P w) (cxOf (CXE P w) P w K mg base N qual scope f cd A outer s H E).A (cxOf (CXE P w) P w K mg base N qual scope f cd A outer s H E).env (ownE P w (cxOf (CXE P w) P w K mg base N qual scope f cd A outer s H E) E) (.ref ea) { s' with heap := h' } := fun h' held up => by
    refine cameBack_held (s := { s' with heap := h' }) (L := s.heap.objs.size) rfl held fun h2 k2 => ?_
    refine ⟨pins, σ, H1, s1, I, ea, t, H2, cls, B, rfl, os, bare, hE, .inr ⟨_, rfl, held_get k2 held⟩, L.up fun b o q hb sl z => ?_⟩
    obtain ⟨_, o', ho', hd'⟩ := I.stack.mem hb
    rw [q] at ho'
    cases ho'
    obtain ⟨sl2, z2⟩ := up b _ z hd'
    exact ⟨sl2, (k2 b).trans z2⟩
  rcases fl with fl | ⟨L0, e0, held⟩
  · exact wpAny_looks_onW I.ok.frames rfl fl fun h' held up => fin h' held up
  · have e1 : L0 = s.heap.objs.size := (Option.some.inj e0).symm
    subst e1
    exact wpAny_noteFrame_againW rfl held.2.2.2 (fin s'.heap held fun b o q _ => ⟨o.slots, q⟩)
/-- and it leaves the frame -/
theorem ownE_out {e : Value} {s' : Shared} (h : ownE P w (cxOf (CXE P w) P w K mg base N qual scope f cd A outer s H E) E e s') : (cxOf (CXE P w) P w K mg base N qual scope f cd A outer s H E).xe e s' := by
  obtain ⟨pins, σ, H1, s1, I, ea, t, H2, cls, B, rfl, os, bare, hE, fl, L⟩ := h
  rcases fl with fl | ⟨L0, e0, held⟩
  · exact passX pins σ H1 s1 (.ref ea) s' I ⟨ea, t, H2, cls, B, rfl, os, bare, hE, fl, L⟩
  have e1 : L0 = s.heap.objs.size := (Option.some.inj e0).symm
  subst e1
  show wpAny (model P w) _ (leaving (envOfC qual scope s.heap.objs.size f cd) (.ref ea)) _ _ s'
  unfold leaving
  refine wpAny_bind (wpAny_noteFrame_againW rfl held.2.2.2 ?_)
  refine wpAny_landsW held fun h' fl' up => ?_
  obtain ⟨y1, y2, ⟨_, _, y3⟩, y4⟩ := fl'
  have nf : ∀ {b : Addr} {o : Obj}, s.heap.get? b = some o → b ∉ frs outer → b ∉ frs (envOfC qual scope s.heap.objs.size f cd :: outer) := fun {b o} e n z => by
    have z' : b ∈ s.heap.objs.size :: frs outer := z
    rcases List.mem_cons.mp z' with q | q
    · exact absurd (Heap.lt_size e) (by rw [q]; exact Nat.lt_irrefl _)
    · exact n q
  have inn : ∀ {b : Addr}, b ∈ frs outer → b ∈ frs (envOfC qual scope s.heap.objs.size f cd :: outer) := fun {b} h => by
    show b ∈ s.heap.objs.size :: frs outer
    exact List.mem_cons_of_mem _ h
  have fre : ∀ b o, s.heap.get? b = some o → H b = none → H1 b = none := fun b o q n => I.base.free b o q n (by exact List.not_mem_nil)
  refine ⟨ea, t, H2, cls, B, rfl, os.trans I.os, bare, hE, ⟨y1, y2, y3, y4⟩, ⟨L.hok, L.new, fun b o q n hb => ?_, fun b o q n hb => ?_, fun b o q hb => ?_, fun b o q n => ?_, fun b xs q => L.tups b xs (I.base.tups b xs q), fun b o u q => L.frzs b o u (I.base.frzs b o u q), fun b ps q => ?_⟩⟩
  · exact L.keep b o (I.base.keep b o q n hb List.not_mem_nil) (fre b o q n) (nf q hb)
  · obtain ⟨sl, z⟩ := I.base.slot b o q n hb List.not_mem_nil
    obtain ⟨sl2, z2⟩ := L.slot b _ z (fre b o q n) (inn hb)
    obtain ⟨_, o', ho', hd'⟩ := I.ok.funs.mem hb
    rw [show (cxOf (CXE P w) P w K mg base N qual scope f cd A outer s H E).s₀.heap.get? b = some o from q] at ho'
    cases ho'
    obtain ⟨sl3, z3⟩ := up b _ z2 hd'
    exact ⟨sl3, z3⟩
  · obtain ⟨o', z⟩ := I.base.there b o q List.not_mem_nil
    exact L.there b o' z (nf q hb)
  · obtain ⟨sl, z⟩ := I.base.any q n List.not_mem_nil
    exact L.free b _ z (fre b o q n)
  · obtain ⟨m1, z1⟩ := I.base.tbls b ps q
    obtain ⟨m2, z2⟩ := L.tbls b _ z1
    exact ⟨m1 ++ m2, by rw [z2, Array.append_assoc]⟩
/-- for .. whose body may raise -/
theorem ps_forX {X : Cx} (hX : X = cxOf (CXE P w) P w K mg base N qual scope f cd A outer s H E) {tg iter : Expr} {body : List Stmt} {wi : TI} {g : TG} {tb : TS} {pos : Pos} (hc : X.calm = true) (hi : PI (X.wish (ownE P w X E)) tg iter wi) (hg : PG (X.wish (ownE P w X E)) tg g) (hb : PSs (X.wish (ownE P w X E)) body tb)
    (hs : ∀ x, foldedSetIterable iter X.env x = pure x := by intro _; rfl) : PS X (.For tg iter body [] pos) (tFor wi g tb) := by
  subst hX
  intro pins s1 σ H1 D I h
  refine wpAny_mono (ps_for (X := Cx.wish (cxOf (CXE P w) P w K mg base N qual scope f cd A outer s H E) (ownE P w (cxOf (CXE P w) P w K mg base N qual scope f cd A outer s H E) E)) passesOwnE hc hi hg hb hs pins s1 σ H1 D (I.wish _) h) (fun fl s2 q => ?_) fun e s2 q => ownE_out q
  cases fl with
  | next => obtain ⟨σ7, H7, I7, q7⟩ := q; exact ⟨σ7, H7, I7.unwish, q7⟩
  | cont => obtain ⟨σ7, H7, I7, q7⟩ := q; exact ⟨σ7, H7, I7.unwish, q7⟩
  | brk => obtain ⟨σ7, H7, I7, q7⟩ := q; exact ⟨σ7, H7, I7.unwish, q7⟩
  | ret v => obtain ⟨x7, σ7, H7, I7, r7, q7⟩ := q; exact ⟨x7, σ7, H7, I7.unwish, r7, q7⟩
end
end L2

set_option linter.all false
set_option maxRecDepth 100000
set_option maxHeartbeats 4000000
namespace L2
open PySem PySem.Spec PyProof.Rows
/-! ### things of any kind -/
inductive D where
  | non | bl (b : Bool) | int (n : Int) | str (s : Str) | tup (ds : List D) | lst (ds : List D) | dct
mutual
/-- v is that thing; lists are not hd -/
inductive DAt (hd : Addr) (H : Hp) : V → D → Prop
  | non : DAt hd H .non .non
  | bl (b : Bool) : DAt hd H (.bl b) (.bl b)
  | int (n : Int) : DAt hd H (.int n) (.int n)
  | str (s : Str) (h : (∀ c ∈ s.cps.toList, c < 128) ∧ s.length ≤ 1000) : DAt hd H (.str s) (.str s)
  | tup {a : Addr} {xs : List V} {ds : List D} (h : H a = some (.tup xs)) (t : DsAt hd H xs ds) : DAt hd H (.ref a) (.tup ds)
  | lst {a : Addr} {xs : List V} {ds : List D} (h : H a = some (.lst xs)) (n : a ≠ hd) (t : DsAt hd H xs ds) : DAt hd H (.ref a) (.lst ds)
  | dct {a : Addr} {kvs : List (Key × V)} (h : H a = some (.dK kvs)) : DAt hd H (.ref a) .dct
inductive DsAt (hd : Addr) (H : Hp) : List V → List D → Prop
  | nil : DsAt hd H [] []
  | cons {x : V} {d : D} {xs : List V} {ds : List D} (h : DAt hd H x d) (t : DsAt hd H xs ds) : DsAt hd H (x :: xs) (d :: ds)
end
section
variable {hd : Addr} {H H' : Hp}
mutual
theorem DAt.same (s : Same H H') : ∀ {v : V} {d : D}, DAt hd H v d → DAt hd H' v d
  | _, _, .non => .non
  | _, _, .bl b => .bl b
  | _, _, .int n => .int n
  | _, _, .str x h => .str x h
  | _, _, .tup h t => .tup (s _ _ h) (DsAt.same s t)
  | _, _, .lst h n t => .lst (s _ _ h) n (DsAt.same s t)
  | _, _, .dct h => .dct (s _ _ h)
theorem DsAt.same (s : Same H H') : ∀ {vs : List V} {ds : List D}, DsAt hd H vs ds → DsAt hd H' vs ds
  | _, _, .nil => .nil
  | _, _, .cons h t => .cons (DAt.same s h) (DsAt.same s t)
end
mutual
theorem DAt.but {ys : List V} (hy : H hd = some (.lst ys)) (s : SameB hd H H') : ∀ {v : V} {d : D}, DAt hd H v d → DAt hd H' v d
  | _, _, .non => .non
  | _, _, .bl b => .bl b
  | _, _, .int n => .int n
  | _, _, .str x h => .str x h
  | _, _, .tup h t => .tup (s _ _ h fun e => by rw [e, hy] at h; cases h) (DsAt.but hy s t)
  | _, _, .lst h n t => .lst (s _ _ h n) n (DsAt.but hy s t)
  | _, _, .dct h => .dct (s _ _ h fun e => by rw [e, hy] at h; cases h)
theorem DsAt.but {ys : List V} (hy : H hd = some (.lst ys)) (s : SameB hd H H') : ∀ {vs : List V} {ds : List D}, DsAt hd H vs ds → DsAt hd H' vs ds
  | _, _, .nil => .nil
  | _, _, .cons h t => .cons (DAt.but hy s h) (DsAt.but hy s t)
end
theorem DsAt.len : ∀ {vs : List V} {ds : List D}, DsAt hd H vs ds → vs.length = ds.length
  | _, _, .nil => rfl
  | _, _, .cons _ t => congrArg (· + 1) t.len
theorem DsAt.get : ∀ {vs : List V} {ds : List D} {i : Nat} {v : V}, DsAt hd H vs ds → vs[i]? = some v → ∃ d, ds[i]? = some d ∧ DAt hd H v d
  | _, _, 0, _, .cons h _, e => by cases e; exact ⟨_, rfl, h⟩
  | _, _, i + 1, _, .cons _ t, e => t.get (i := i) e
end
/-! ### kinds -/
theorem kit_not {K : PySem.W.Frag} {a b : String} (hn : (Value.type a == Value.type b) = false) (hm : (if PySem.W.kitMeta b = true then (PySem.fastBuiltinMro a).map (·.contains (Value.type b)) else none) = some false) : PySem.W.kitOne K (.type a) (.type b) = some false := by
  unfold PySem.W.kitOne
  rw [if_neg (by rw [hn]; decide)]
  exact hm
/-! ### text times number -/
section
variable {X : Cx}
/-- str of a text or of a number -/
theorem call_strD : CallR X (.type "str") (fun xs H Q => (∃ i, xs = [.int i] ∧ i.natAbs.log2 < 1920 ∧ Q (.str (tx i)) H) ∨ ∃ z, xs = [.str z] ∧ Q (.str z) H) := by
  intro pins s σ H xs us Q I r h
  rcases h with ⟨i, rfl, hi, q⟩ | ⟨z, rfl, q⟩
  · exact call_str_int pins s σ H [.int i] us Q I r ⟨i, rfl, hi, q⟩
  · obtain ⟨u, rfl, ru⟩ := vals1 r
    obtain ⟨t, rfl⟩ := ru
    exact PySem.P.str_of_str ⟨.str z, H, I, ⟨t, rfl⟩, q⟩
end
section
variable {σ : St} {H : Hp} {te : TE} {fr : St → St} {K : PySem.W.Frag}
/-- thing[1:] -/
theorem cutV1 (x : V) (xs : List V) : cutV (x :: xs) (some 1) none = xs := by
  have := cutV_drop (x :: xs) (k := 1) (by simp)
  simpa using this
theorem gv_tl {to : TE} {a : Addr} {x : V} {xs : List V} (ho : Pu to σ H (.ref a)) (ha : H a = some (.tup (x :: xs))) : Gv (tSl (rSlT K) to (tPart (tC (.int 1))) tNoPart) σ H (fun v H' => ∃ p, H p = none ∧ v = .ref p ∧ H' = upd H p (.tup xs)) := fun Q q =>
  ho _ ⟨1, rfl, a, x :: xs, rfl, SqT.of ha, fun z => by
    have : HT.sIx (x :: xs).length 0 (some 1) = 1 := by
      show HT.sIx (xs.length + 1) 0 (some 1) = 1
      simp [HT.sIx]
    rw [this] at z
    exact absurd z.1 (by decide), fun p hp => by rw [cutV1]; exact q _ _ ⟨p, hp, rfl, rfl⟩⟩
end
end L2

set_option linter.all false
set_option maxRecDepth 100000
set_option maxHeartbeats 4000000
namespace L2
open PySem PySem.StrLaws PySem.Builtin PySem.Builtin.Str PyProof.Rows
/-! ### shapes -/
inductive Kd where
  | name | number | wish
  deriving DecidableEq
def kdS : Kd → Str
  | .name => Str.ofString "name"
  | .number => Str.ofString "number"
  | .wish => Str.ofString "wish"
def shTab : List (Str × List Kd) := [(Str.ofString "in", [.name]), (Str.ofString "round", [.name, .number]), (Str.ofString "least", [.number]), (Str.ofString "no", [.wish]), (Str.ofString "both", [.wish, .wish]), (Str.ofString "any", [.wish, .wish])]
def shp (s : Str) : Option (List Kd) := (shTab.find? fun p => p.1 == s).map (·.2)
def ShOk (w : World) (K : PySem.W.Frag) (d : Addr) : Prop := ∃ l, KTab w K d l ∧ Paired (fun (p : Str × Tok × Addr) (q : Str × List Kd) => p.1 = q.1 ∧ ∀ H, SqT K H p.2.2 (q.2.map fun k => V.str (kdS k))) l shTab
theorem tab_find {K : PySem.W.Frag} {s : Str} : ∀ {l : List (Str × Tok × Addr)} {m : List (Str × List Kd)}, Paired (fun (p : Str × Tok × Addr) (q : Str × List Kd) => p.1 = q.1 ∧ ∀ H, SqT K H p.2.2 (q.2.map fun k => V.str (kdS k))) l m →
    ((m.find? fun p => p.1 == s).map (·.2) = none ∧ tabV l s = .non) ∨ ∃ ks a, (m.find? fun p => p.1 == s).map (·.2) = some ks ∧ tabV l s = .ref a ∧ ∀ H, SqT K H a (ks.map fun k => V.str (kdS k))
  | _, _, .nil => .inl ⟨rfl, rfl⟩
  | p :: l, q :: m, .cons h t => by
    unfold tabV
    rw [List.find?_cons, List.find?_cons, h.1]
    cases q.1 == s with
    | true => exact .inr ⟨q.2, p.2.2, rfl, rfl, h.2⟩
    | false => exact tab_find t
/-! ### which things are wishes -/
def letters : Str := Str.ofString "abcdefghijklmnopqrstuvwxyz"
def nameOk (s : Str) : Bool := decide (1 ≤ s.length) && (decide (s.length ≤ 8) && s.cps.toList.all fun c => decide (c ∈ letters.cps.toList))
/-! ### wishes -/
inductive Wi where
  | inn (n : Str) | rnd (n : Str) (k : Int) | lst (k : Int) | no (w : Wi) | both (a b : Wi) | any (a b : Wi)
namespace Wi
def d : Wi → D
  | inn n => .tup [.str (Str.ofString "in"), .str n]
  | rnd n k => .tup [.str (Str.ofString "round"), .str n, .int k]
  | lst k => .tup [.str (Str.ofString "least"), .int k]
  | no w => .tup [.str (Str.ofString "no"), w.d]
  | both a b => .tup [.str (Str.ofString "both"), a.d, b.d]
  | any a b => .tup [.str (Str.ofString "any"), a.d, b.d]
def deep : Wi → Nat
  | inn _ => 1
  | rnd _ _ => 1
  | lst _ => 1
  | no w => w.deep + 1
  | both a b => max a.deep b.deep + 1
  | any a b => max a.deep b.deep + 1
def names : Wi → Prop
  | inn n => nameOk n = true
  | rnd n _ => nameOk n = true
  | lst _ => True
  | no w => w.names
  | both a b => a.names ∧ b.names
  | any a b => a.names ∧ b.names
def nums (P : Int → Prop) : Wi → Prop
  | inn _ => True
  | rnd _ k => P k
  | lst k => P k
  | no w => w.nums P
  | both a b => a.nums P ∧ b.nums P
  | any a b => a.nums P ∧ b.nums P
def words : Wi → List Str
  | inn n => [Str.ofString "in", n]
  | rnd n k => [Str.ofString "round", n, tx k]
  | lst k => [Str.ofString "least", tx k]
  | no w => Str.ofString "no" :: w.words
  | both a b => Str.ofString "both" :: (a.words ++ b.words)
  | any a b => Str.ofString "any" :: (a.words ++ b.words)
def text (w : Wi) : Str := Str.join (Str.ofString " ") w.words
theorem words_ne (w : Wi) : w.words ≠ [] := by cases w <;> simp [words]
theorem deep_pos (w : Wi) : 1 ≤ w.deep := by cases w <;> simp [deep]
end Wi
/-! ### texts -/
theorem app_assoc (x y z : Str) : x ++ y ++ z = x ++ (y ++ z) := str_ext (by simp [app_list])
theorem join_cons (sep x : Str) {ys : List Str} (h : ys ≠ []) : Str.join sep (x :: ys) = x ++ sep ++ Str.join sep ys := by
  cases ys with
  | nil => exact absurd rfl h
  | cons y r => rfl
theorem join_app (sep : Str) : ∀ {xs ys : List Str}, xs ≠ [] → ys ≠ [] → Str.join sep (xs ++ ys) = Str.join sep xs ++ sep ++ Str.join sep ys
  | [x], ys, _, h => join_cons sep x h
  | x :: y :: r, ys, _, h => by
    rw [List.cons_append, join_cons sep x (by simp), join_app sep (xs := y :: r) (by simp) h, join_cons sep x (by simp)]
    simp only [app_assoc]
/-! ### the written dict of the shapes -/
theorem sq_w {K : PySem.W.Frag} {a : Addr} {o : Option Addr} {its : Array Value} {n} {sl : Array (Option Value)} {xs : List V} (h : K.lookup a = some ⟨.type "tuple", o, .seq its n, sl⟩) (hz : its.size ≤ 10) (hv : Vals xs its.toList) : ∀ H, SqT K H a xs := fun H => .inr ⟨_, its, n, h, rfl, rfl, Nat.le_trans hz (by decide), hv⟩
theorem sh_mk {w : World} {K : PySem.W.Frag} {d : Addr} {ep} {t0 : Tok} {a0 : Addr} {t1 : Tok} {a1 : Addr} {t2 : Tok} {a2 : Addr} {t3 : Tok} {a3 : Addr} {t4 : Tok} {a4 : Addr} {t5 : Tok} {a5 : Addr} {o0 : Option Addr} {n0} {s0 : Array (Option Value)} {u0_0 : Tok} {o1 : Option Addr} {n1} {s1 : Array (Option Value)} {u1_0 : Tok} {u1_1 : Tok} {o2 : Option Addr} {n2} {s2 : Array (Option Value)} {u2_0 : Tok} {o3 : Option Addr} {n3} {s3 : Array (Option Value)} {u3_0 : Tok} {o4 : Option Addr} {n4} {s4 : Array (Option Value)} {u4_0 : Tok} {u4_1 : Tok} {o5 : Option Addr} {n5} {s5 : Array (Option Value)} {u5_0 : Tok} {u5_1 : Tok} (hd : (d == sysModules) = false) (y : K.lookup d = some ⟨.type "dict", none, .dict #[⟨PyData.keyHash w.params (Str.ofString "in"), .str (Str.ofString "in") t0, .ref a0⟩, ⟨PyData.keyHash w.params (Str.ofString "round"), .str (Str.ofString "round") t1, .ref a1⟩, ⟨PyData.keyHash w.params (Str.ofString "least"), .str (Str.ofString "least") t2, .ref a2⟩, ⟨PyData.keyHash w.params (Str.ofString "no"), .str (Str.ofString "no") t3, .ref a3⟩, ⟨PyData.keyHash w.params (Str.ofString "both"), .str (Str.ofString "both") t4, .ref a4⟩, ⟨PyData.keyHash w.params (Str.ofString "any"), .str (Str.ofString "any") t5, .ref a5⟩] ep, #[]⟩) (y0 : K.lookup a0 = some ⟨.type "tuple", o0, .seq #[.str (Str.ofString "name") u0_0] n0, s0⟩) (y1 : K.lookup a1 = some ⟨.type "tuple", o1, .seq #[.str (Str.ofString "name") u1_0, .str (Str.ofString "number") u1_1] n1, s1⟩) (y2 : K.lookup a2 = some ⟨.type "tuple", o2, .seq #[.str (Str.ofString "number") u2_0] n2, s2⟩) (y3 : K.lookup a3 = some ⟨.type "tuple", o3, .seq #[.str (Str.ofString "wish") u3_0] n3, s3⟩) (y4 : K.lookup a4 = some ⟨.type "tuple", o4, .seq #[.str (Str.ofString "wish") u4_0, .str (Str.ofString "wish") u4_1] n4, s4⟩) (y5 : K.lookup a5 = some ⟨.type "tuple", o5, .seq #[.str (Str.ofString "wish") u5_0, .str (Str.ofString "wish") u5_1] n5, s5⟩) : ShOk w K d := by
  refine ⟨[(Str.ofString "in", t0, a0), (Str.ofString "round", t1, a1), (Str.ofString "least", t2, a2), (Str.ofString "no", t3, a3), (Str.ofString "both", t4, a4), (Str.ofString "any", t5, a5)], ⟨hd, ep, y⟩, .cons ⟨rfl, sq_w y0 (by simp) (.cons ⟨_, rfl⟩ (.nil))⟩ (.cons ⟨rfl, sq_w y1 (by simp) (.cons ⟨_, rfl⟩ (.cons ⟨_, rfl⟩ (.nil)))⟩ (.cons ⟨rfl, sq_w y2 (by simp) (.cons ⟨_, rfl⟩ (.nil))⟩ (.cons ⟨rfl, sq_w y3 (by simp) (.cons ⟨_, rfl⟩ (.nil))⟩ (.cons ⟨rfl, sq_w y4 (by simp) (.cons ⟨_, rfl⟩ (.cons ⟨_, rfl⟩ (.nil)))⟩ (.cons ⟨rfl, sq_w y5 (by simp) (.cons ⟨_, rfl⟩ (.cons ⟨_, rfl⟩ (.nil)))⟩ (.nil))))))⟩
end L2

set_option linter.all false
set_option maxRecDepth 100000
set_option maxHeartbeats 4000000
namespace L2
open PySem PySem.Spec PyProof.Rows
def D.ty : D → String
  | .non => "NoneType"
  | .bl _ => "bool"
  | .int _ => "int"
  | .str _ => "str"
  | .tup _ => "tuple"
  | .lst _ => "list"
  | .dct => "dict"
theorem DAt.ty {K : PySem.W.Frag} {hd : Addr} {H : Hp} {v : V} {d : D} (h : DAt hd H v d) : TyOf K H v (.type d.ty) := by
  cases h with
  | non => exact .non
  | bl b => exact .bl b
  | int n => exact .int n
  | str s _ => exact .str s
  | tup h _ => exact .tup h
  | lst h _ _ => exact .lst h
  | dct h => exact .dK h
def D.isStr : D → Bool
  | .str _ => true
  | _ => false
def D.isTup : D → Bool
  | .tup _ => true
  | _ => false
theorem kd_str {K : PySem.W.Frag} (d : D) : PySem.W.kitOne K (.type d.ty) (.type "str") = some d.isStr := by
  cases d with
  | str s => exact kit_same
  | non => exact kit_not (a := "NoneType") (b := "str") (by decide) (by decide +kernel)
  | bl _ => exact kit_not (a := "bool") (b := "str") (by decide) (by decide +kernel)
  | int _ => exact kit_not (a := "int") (b := "str") (by decide) (by decide +kernel)
  | tup _ => exact kit_not (a := "tuple") (b := "str") (by decide) (by decide +kernel)
  | lst _ => exact kit_not (a := "list") (b := "str") (by decide) (by decide +kernel)
  | dct => exact kit_not (a := "dict") (b := "str") (by decide) (by decide +kernel)
theorem kd_tup {K : PySem.W.Frag} (d : D) : PySem.W.kitOne K (.type d.ty) (.type "tuple") = some d.isTup := by
  cases d with
  | tup s => exact kit_same
  | non => exact kit_not (a := "NoneType") (b := "tuple") (by decide) (by decide +kernel)
  | bl _ => exact kit_not (a := "bool") (b := "tuple") (by decide) (by decide +kernel)
  | int _ => exact kit_not (a := "int") (b := "tuple") (by decide) (by decide +kernel)
  | str _ => exact kit_not (a := "str") (b := "tuple") (by decide) (by decide +kernel)
  | lst _ => exact kit_not (a := "list") (b := "tuple") (by decide) (by decide +kernel)
  | dct => exact kit_not (a := "dict") (b := "tuple") (by decide) (by decide +kernel)
end L2

set_option linter.all false
set_option maxRecDepth 100000
set_option maxHeartbeats 4000000
namespace L2
open PySem PySem.StrLaws PySem.Builtin PySem.Builtin.Str PyProof.Rows
/-! ### wishes by their parts -/
inductive Pa where
  | nm (s : Str) | nb (k : Int) | ws (w : Wi)
namespace Pa
def d : Pa → D
  | nm s => .str s
  | nb k => .int k
  | ws w => w.d
def words : Pa → List Str
  | nm s => [s]
  | nb k => [tx k]
  | ws w => w.words
def text : Pa → Str
  | nm s => s
  | nb k => tx k
  | ws w => w.text
def deep : Pa → Nat
  | ws w => w.deep
  | _ => 0
def names : Pa → Prop
  | nm s => nameOk s = true
  | nb _ => True
  | ws w => w.names
def nums (P : Int → Prop) : Pa → Prop
  | nm _ => True
  | nb k => P k
  | ws w => w.nums P
theorem words_ne (p : Pa) : p.words ≠ [] := by
  cases p with
  | nm s => simp [words]
  | nb k => simp [words]
  | ws w => exact w.words_ne
theorem text_join (p : Pa) : p.text = Str.join (Str.ofString " ") p.words := by cases p <;> rfl
end Pa
namespace Wi
def word : Wi → Str
  | inn _ => Str.ofString "in"
  | rnd _ _ => Str.ofString "round"
  | lst _ => Str.ofString "least"
  | no _ => Str.ofString "no"
  | both _ _ => Str.ofString "both"
  | any _ _ => Str.ofString "any"
def parts : Wi → List Pa
  | inn n => [.nm n]
  | rnd n k => [.nm n, .nb k]
  | lst k => [.nb k]
  | no w => [.ws w]
  | both a b => [.ws a, .ws b]
  | any a b => [.ws a, .ws b]
theorem d_eq (w : Wi) : w.d = .tup (.str w.word :: w.parts.map Pa.d) := by cases w <;> rfl
theorem words_eq (w : Wi) : w.words = w.word :: (w.parts.map Pa.words).flatten := by cases w <;> simp [words, word, parts, Pa.words]
theorem parts_le (w : Wi) : w.parts.length ≤ 2 := by cases w <;> simp [parts]
theorem parts_ne (w : Wi) : w.parts ≠ [] := by cases w <;> simp [parts]
theorem deep_iff (w : Wi) (n : Nat) : w.deep ≤ n + 1 ↔ ∀ p ∈ w.parts, p.deep ≤ n := by cases w <;> simp [deep, parts, Pa.deep] <;> omega
theorem names_iff (w : Wi) : w.names ↔ ∀ p ∈ w.parts, p.names := by cases w <;> simp [names, parts, Pa.names]
theorem nums_iff (w : Wi) (P : Int → Prop) : w.nums P ↔ ∀ p ∈ w.parts, p.nums P := by cases w <;> simp [nums, parts, Pa.nums]
theorem word_le (w : Wi) : w.word.length ≤ 5 := by
  have : ∀ s ∈ [Str.ofString "in", Str.ofString "round", Str.ofString "least", Str.ofString "no", Str.ofString "both", Str.ofString "any"], s.length ≤ 5 := by decide +kernel
  cases w <;> exact this _ (by simp [word])
theorem word_ascii (w : Wi) : ∀ c ∈ w.word.cps.toList, c < 128 := by
  have : ∀ s ∈ [Str.ofString "in", Str.ofString "round", Str.ofString "least", Str.ofString "no", Str.ofString "both", Str.ofString "any"], ∀ c ∈ s.cps.toList, c < 128 := by decide +kernel
  cases w <;> exact this _ (by simp [word])
end Wi
theorem join_flat (sep : Str) : ∀ (ps : List Pa), ps ≠ [] → Str.join sep (ps.map fun p => Str.join sep p.words) = Str.join sep (ps.map Pa.words).flatten
  | [p], _ => by simp [Str.join]
  | p :: q :: r, _ => by
    have ih := join_flat sep (q :: r) (by simp)
    have hne : ((q :: r).map Pa.words).flatten ≠ [] := by
      have := q.words_ne
      simp [this]
    rw [List.map_cons, join_cons sep _ (by simp), ih, List.map_cons (f := Pa.words) (a := p), List.flatten_cons, join_app sep p.words_ne hne]
theorem Wi.text_eq (w : Wi) : w.text = Str.join (Str.ofString " ") (w.word :: w.parts.map Pa.text) := by
  have h1 : w.parts.map Pa.text = w.parts.map fun p => Str.join (Str.ofString " ") p.words := List.map_congr_left fun p _ => p.text_join
  have hne : (w.parts.map Pa.words).flatten ≠ [] := by
    cases h : w.parts with
    | nil => exact absurd h w.parts_ne
    | cons p r =>
      have := p.words_ne
      simp [this]
  unfold Wi.text
  rw [w.words_eq, h1, join_cons _ _ hne, join_cons _ _ (by simpa using w.parts_ne), join_flat _ _ w.parts_ne]
theorem name_len {s : Str} (h : nameOk s = true) : 1 ≤ s.length ∧ s.length ≤ 8 := by
  unfold nameOk at h
  simp only [Bool.and_eq_true, decide_eq_true_iff] at h
  exact ⟨h.1, h.2.1⟩
theorem name_ascii {s : Str} (h : nameOk s = true) : ∀ c ∈ s.cps.toList, c < 128 := fun c hc => by
  unfold nameOk at h
  simp only [Bool.and_eq_true, List.all_eq_true] at h
  have h1 := of_decide_eq_true (h.2.2 c hc)
  have : ∀ c ∈ letters.cps.toList, c < 128 := by decide +kernel
  exact this c h1
theorem tx_ascii (n : Int) : ∀ c ∈ (tx n).cps.toList, c < 128 := fun c hc => by
  rcases Int.lt_or_le n 0 with h | h
  · rw [tx_neg' h] at hc
    rcases List.mem_cons.mp hc with rfl | hc
    · decide
    · exact Nat.lt_of_le_of_lt (Dg_all _ c hc).2 (by decide)
  · rw [tx_pos' h] at hc
    exact Nat.lt_of_le_of_lt (Dg_all _ c hc).2 (by decide)
/-- texts are not too long -/
theorem Wi.text_len : ∀ (n : Nat) (w : Wi), w.deep ≤ n → w.names → w.nums (Bd 700) → w.text.length ≤ 751 * 3 ^ n
  | 0, w, h, _, _ => by have := w.deep_pos; omega
  | n + 1, w, h, hn, hk => by
    have hp : ∀ p ∈ w.parts, p.text.length ≤ 751 * 3 ^ n := fun p hp => by
      have p1 : 751 ≤ 751 * 3 ^ n := Nat.le_mul_of_pos_right _ (Nat.pow_pos (by decide))
      have d1 := (w.deep_iff n).mp h p hp
      have n1 := w.names_iff.mp hn p hp
      have k1 := (w.nums_iff _).mp hk p hp
      cases p with
      | nm s =>
        have := (name_len n1).2
        show s.length ≤ _
        omega
      | nb k =>
        have := tx_len4 k1
        show (tx k).length ≤ _
        omega
      | ws v => exact Wi.text_len n v d1 n1 k1
    have h1 : (Str.ofString " ").length = 1 := by decide +kernel
    have p1 : 1 ≤ 3 ^ n := Nat.pow_pos (by decide)
    have wl := w.word_le
    rw [w.text_eq, Nat.pow_succ]
    revert hp wl
    generalize w.word = wd
    have hl := w.parts_le
    have hne := w.parts_ne
    revert hl hne
    generalize w.parts = ps
    intro hl hne hp wl
    match ps, hl, hne, hp with
    | [p], _, _, hp =>
      have := hp p (by simp)
      show (wd ++ Str.ofString " " ++ p.text).length ≤ _
      rw [app_len, app_len]
      omega
    | [p, q], _, _, hp =>
      have h2 := hp p (by simp)
      have h3 := hp q (by simp)
      show (wd ++ Str.ofString " " ++ (p.text ++ Str.ofString " " ++ q.text)).length ≤ _
      rw [app_len, app_len, app_len, app_len]
      omega
/-! ### wishes laid hold no lists -/
end L2

set_option linter.all false
set_option maxRecDepth 100000
set_option maxHeartbeats 4000000
namespace L2
open PySem PySem.Spec PyProof.Rows
theorem lookup2 {a b y : Str} {ca cb c : Addr} (h : [(a, ca), (b, cb)].lookup y = some c) : (y = a ∧ c = ca) ∨ (y = b ∧ c = cb) := by
  simp only [List.lookup_cons, List.lookup_nil] at h
  by_cases n1 : (y == a) = true
  · rw [n1] at h
    exact .inl ⟨beq_iff_eq.mp n1, (Option.some.inj h).symm⟩
  · rw [Bool.eq_false_iff.mpr n1] at h
    by_cases n2 : (y == b) = true
    · rw [n2] at h
      exact .inr ⟨beq_iff_eq.mp n2, (Option.some.inj h).symm⟩
    · rw [Bool.eq_false_iff.mpr n2] at h
      cases h
section
variable {X : Cx}
/-- a comprehension that catches two names -/
theorem pe_lcompD {x a b : Str} {px : Pos} {elt iter : Expr} {scope : Scope} {ca cb : Addr} {pos : Pos} {wi : TI} {te : TE} (ja jb : Nat)
    (hc : X.calm = true) (hi : PI X (.Name x px) iter wi)
    (hg : ∀ C fp s0 H0, PG (blk X [x, a, b] scope [(a, ca), (b, cb)] C fp s0 H0) (.Name x px) (gName 0)) (he : ∀ C fp s0 H0, PE (blk X [x, a, b] scope [(a, ca), (b, cb)] C fp s0 H0) elt te)
    (hclos : closureFor scope X.env = pure [(a, ca), (b, cb)]) (hkind : scope.kind = .function) (hnames : ∀ x ∈ scope.names, x.2 = .local → scope.names.lookup x.1 = some .local) (hcell : ∀ y ∈ scope.names, y.2 ≠ .cell)
    (h1 : X.env.cells.lookup a = some ca ∧ X.N[ja]? = some a ∧ X.env.kindOf a = some .cell ∧ (relabel scope X.env).names.lookup a = some .cell)
    (h2 : X.env.cells.lookup b = some cb ∧ X.N[jb]? = some b ∧ X.env.kindOf b = some .cell ∧ (relabel scope X.env).names.lookup b = some .cell)
    (hall : ((relabel scope X.env).names.all fun p => (p.2 != .cell && p.2 != .free) || (p.1 == a || p.1 == b)) = true)
    (hs : ∀ x, foldedSetIterable iter X.env x = pure x := by intro _; rfl) :
    PE X (.ListComp elt [⟨.Name x px, iter, [], 0⟩] scope pos) (tComp wi (fun σ => [none, (σ[ja]?).join, (σ[jb]?).join]) (gName 0) te) := by
  refine pe_lcomp (N' := [x, a, b]) (cl := [(a, ca), (b, cb)]) hc hi hg he hclos hkind hnames hcell (fun y' c' h => ?_) (fun y' h => ?_) (fun _ _ => rfl) (fun σ i y' v e1 e2 => ?_) hs
  · rcases lookup2 h with ⟨rfl, rfl⟩ | ⟨rfl, rfl⟩
    · exact h1.1
    · exact h2.1
  · rw [List.all_eq_true] at hall
    have key : ∀ k, (k = .cell ∨ k = .free) → (relabel scope X.env).names.lookup y' = some k → y' = a ∨ y' = b := fun k hk e => by
      have := hall _ (lookup_mem e)
      rcases hk with rfl | rfl
      · simpa using this
      · simpa using this
    have e : y' = a ∨ y' = b := by
      rcases h with h | h
      · exact key _ (.inl rfl) h
      · exact key _ (.inr rfl) h
    simp only [List.lookup_cons]
    by_cases n1 : (y' == a) = true
    · exact ⟨ca, by rw [n1]⟩
    · have n2 : (y' == b) = true := by
        rcases e with e | e
        · exact absurd (beq_iff_eq.mpr e) n1
        · exact beq_iff_eq.mpr e
      exact ⟨cb, by rw [Bool.eq_false_iff.mpr n1, n2]⟩
  · have js : ∀ {j : Nat}, (σ[j]?).join = some v → σ[j]? = some (some v) := fun {j} e => by
      cases h : σ[j]? with
      | none => rw [h] at e; cases e
      | some o => rw [h] at e; have : o = some v := e; rw [this]
    match i, e1, e2 with
    | 0, _, e2 => cases e2
    | 1, e1, e2 =>
      have e1' : a = y' := by simpa using e1
      subst e1'
      exact ⟨ja, h1.2.1, js (by simpa using e2), h1.2.2.1, h1.2.2.2⟩
    | 2, e1, e2 =>
      have e1' : b = y' := by simpa using e1
      subst e1'
      exact ⟨jb, h2.2.1, js (by simpa using e2), h2.2.2.1, h2.2.2.2⟩
    | i + 3, e1, _ => simp at e1
end
section
variable {K : PySem.W.Frag} {σ : St} {H : Hp} {D : Ends} {rest tb : TS}
/-- for .. in what is laid -/
theorem st_tuplG {g : TG} {te : TE} {RL : V → Hp → Prop} (h : Gv te σ H RL) (k : ∀ v H1, RL v H1 → tSeq (tFor (iTup K (tC v)) g tb) rest D σ H1) : tSeq (tFor (iTup K te) g tb) rest D σ H := h _ fun v H1 r => k v H1 r
end
section
variable {σ : St} {H : Hp} {te : TE}
theorem gv_compRG {ta : TA} {fr : St → St} {g : TG} {RA : List V → Hp → Prop} {R : V → Hp → Prop} (ha : GvA ta σ H RA) (hr : ∀ vs H1, RA vs H1 → ∃ n : Int, vs = [.int n] ∧ -(2 ^ 62) ≤ n ∧ n < 2 ^ 62 ∧ Gv (tComp (iRng1 (tCons (tC (.int n)) tNil)) fr g te) σ H1 R) : Gv (tComp (iRng1 ta) fr g te) σ H R := fun Q q =>
  ha _ fun vs H1 r => by
    obtain ⟨n, rfl, h1, h2, g⟩ := hr vs H1 r
    exact g Q q
end
/-- single signs joined -/
theorem join_signs : ∀ (cs : List Nat), (Str.join (Str.ofString "") (cs.map fun c => (⟨#[c]⟩ : Str))).cps.toList = cs
  | [] => rfl
  | [c] => rfl
  | c :: d :: r => by
    have ih := join_signs (d :: r)
    show ((⟨#[c]⟩ : Str) ++ Str.ofString "" ++ Str.join (Str.ofString "") ((d :: r).map fun c => (⟨#[c]⟩ : Str))).cps.toList = _
    rw [app_list, app_list, ih]
    have : (Str.ofString "").cps.toList = [] := by decide +kernel
    rw [this]
    rfl
end L2

set_option linter.all false
set_option maxRecDepth 100000
set_option maxHeartbeats 4000000
namespace L2
open PySem PySem.Spec PyProof.Rows
/-! ### lists of pairs as tables -/
section
variable {κ : Type} [DecidableEq κ]



end


/-! ### a tracked dict, its keys ints and texts or tuples of these -/





section
variable {X : Cx} {pins : List (Addr × Obj)} {σ : St} {H : Hp} {s : Shared} {a : Addr} {y v : V} {u r : Value} {o : Option V} {A : Around} {E : Value → Shared → Prop}


end



/-! ### readings and rules -/





/-! ### displays -/




/-! ### methods -/




/-! ### dict(d): a copy -/


end L2

namespace L2
open PySem PySem.Spec PyProof.Rows
/-! ### a dict's pairs: keys that differ -/
end L2

set_option linter.all false
set_option maxRecDepth 100000
set_option maxHeartbeats 4000000
namespace L2
open PySem PySem.Spec PyProof.Rows
/-! ### a comprehension with one condition -/
end L2

set_option linter.all false
set_option maxRecDepth 100000
set_option maxHeartbeats 4000000
namespace L2
open PySem PySem.Spec PyProof.Rows
/-! ### a dict while it is walked -/
/-! ### its keys, its values -/
end L2

set_option linter.all false
set_option maxRecDepth 100000
set_option maxHeartbeats 4000000
namespace L2
open PySem PySem.Spec PyProof.Rows
/-! ### names to numbers -/
end L2

set_option linter.all false
set_option maxRecDepth 100000
set_option maxHeartbeats 4000000
namespace L2
open PySem PySem.StrLaws PySem.Builtin PySem.Builtin.Str PyProof.Rows PySem.NumText
/-! ### any text read as a whole number -/
def ten : Str := Str.ofString "0123456789"
theorem ten_iff (c : Nat) : c ∈ ten.cps.toList ↔ 48 ≤ c ∧ c ≤ 57 := by
  have h1 : ∀ c ∈ ten.cps.toList, 48 ≤ c ∧ c ≤ 57 := by decide +kernel
  have h2 : ∀ c, c < 58 → 48 ≤ c → c ∈ ten.cps.toList := by decide +kernel
  exact ⟨h1 c, fun h => h2 c (by omega) h.1⟩
def figL (s : Str) : List Nat := if s.cps.toList[0]? = some 45 then s.cps.toList.drop 1 else s.cps.toList
def wOk (s : Str) : Bool := decide (1 ≤ (figL s).length) && (decide ((figL s).length ≤ 60) && (((figL s).all fun c => decide (c ∈ ten.cps.toList)) && !(decide ((figL s)[0]? = some 48) && !decide (s = Str.ofString "0"))))
def wVal (s : Str) : Int := if s.cps.toList[0]? = some 45 then -((digitsVal (figL s) : Nat) : Int) else ((digitsVal (figL s) : Nat) : Int)
def rW (s : Str) : Option Int := if wOk s = true then some (wVal s) else none
theorem wOk_iff (s : Str) : wOk s = true ↔ 1 ≤ (figL s).length ∧ (figL s).length ≤ 60 ∧ (∀ c ∈ figL s, c ∈ ten.cps.toList) ∧ ¬ ((figL s)[0]? = some 48 ∧ s ≠ Str.ofString "0") := by
  unfold wOk
  simp only [Bool.and_eq_true, decide_eq_true_iff, List.all_eq_true, Bool.not_eq_true', Bool.and_eq_false_iff, Bool.not_eq_false', decide_eq_false_iff_not]
  constructor
  · rintro ⟨h1, h2, h3, h4⟩
    refine ⟨h1, h2, h3, fun h => ?_⟩
    rcases h4 with h4 | h4
    · exact h4 h.1
    · exact h.2 h4
  · rintro ⟨h1, h2, h3, h4⟩
    refine ⟨h1, h2, h3, ?_⟩
    by_cases z : s = Str.ofString "0"
    · exact .inr z
    · exact .inl fun e => h4 ⟨e, z⟩
theorem figL_len (s : Str) : (figL s).length ≤ s.length ∧ s.length ≤ (figL s).length + 1 := by
  unfold figL
  rw [← len_list]
  split
  · rw [List.length_drop]; omega
  · omega
theorem wOk_int {s : Str} (h : wOk s = true) : PySem.intText? s = some (wVal s) ∧ s.length ≤ 61 := by
  obtain ⟨h1, h2, h3, _⟩ := (wOk_iff s).mp h
  have hl := figL_len s
  have hd : AllDigits (figL s) := fun c hc => (ten_iff c).mp (h3 c hc)
  have hne : figL s ≠ [] := fun e => by rw [e] at h1; exact absurd h1 (by decide)
  refine ⟨?_, by omega⟩
  by_cases e : s.cps.toList[0]? = some 45
  · have ef : figL s = s.cps.toList.drop 1 := by unfold figL; rw [if_pos e]
    have es : s.cps.toList = 45 :: figL s := by
      rw [ef]
      cases hs : s.cps.toList with
      | nil => rw [hs] at e; cases e
      | cons c r =>
        rw [hs] at e
        have : c = 45 := Option.some.inj e
        rw [this]
        rfl
    have := intText_neg es hd hne (by omega)
    rw [this]
    unfold wVal
    rw [if_pos e]
  · have ef : figL s = s.cps.toList := by unfold figL; rw [if_neg e]
    have := intText_digits (x := s) (by rw [← ef]; exact hd) (by rw [← ef]; exact hne) (by omega)
    rw [this]
    unfold wVal
    rw [if_neg e, ef]
theorem wVal_lt {s : Str} (h : wOk s = true) : (wVal s).natAbs < 10 ^ 60 := by
  obtain ⟨h1, h2, h3, _⟩ := (wOk_iff s).mp h
  have hd : AllDigits (figL s) := fun c hc => (ten_iff c).mp (h3 c hc)
  have hv := val_lt (figL s) 0 hd
  have : digitsVal (figL s) < 10 ^ 60 := by
    unfold digitsVal
    refine Nat.lt_of_lt_of_le hv ?_
    rw [Nat.zero_add, Nat.one_mul]
    exact Nat.pow_le_pow_right (by decide) h2
  unfold wVal
  split <;> omega
theorem rW_lt {s : Str} {n : Int} (h : rW s = some n) : n.natAbs < 10 ^ 60 := by
  unfold rW at h
  split at h
  · rename_i e
    cases h
    exact wVal_lt e
  · cases h
/-! ### texts cut -/
theorem mem_join {y : Str} {c : Nat} : ∀ {ps : List Str} {p : Str}, p ∈ ps → c ∈ p.cps.toList → c ∈ (Str.join y ps).cps.toList
  | [q], p, hp, hc => by
    rw [List.mem_singleton.mp hp] at hc
    exact hc
  | q :: r :: t, p, hp, hc => by
    show c ∈ (q ++ y ++ Str.join y (r :: t)).cps.toList
    rw [app_list, app_list]
    rcases List.mem_cons.mp hp with rfl | hp
    · exact List.mem_append_left _ (List.mem_append_left _ hc)
    · exact List.mem_append_right _ (mem_join hp hc)
theorem len_join {y : Str} : ∀ {ps : List Str} {p : Str}, p ∈ ps → p.length ≤ (Str.join y ps).length
  | [q], p, hp => by
    rw [List.mem_singleton.mp hp]
    exact Nat.le_refl _
  | q :: r :: t, p, hp => by
    show p.length ≤ (q ++ y ++ Str.join y (r :: t)).length
    rw [app_len, app_len]
    rcases List.mem_cons.mp hp with rfl | hp
    · omega
    · have := len_join (y := y) hp
      omega
theorem count_join {y : Str} (hy : 1 ≤ y.length) : ∀ (ps : List Str), ps.length ≤ (Str.join y ps).length + 1
  | [] => by simp
  | [q] => by simp
  | q :: r :: t => by
    show _ ≤ (q ++ y ++ Str.join y (r :: t)).length + 1
    rw [app_len, app_len]
    have := count_join hy (r :: t)
    rw [List.length_cons]
    omega
def TxOk (s : Str) : Prop := (∀ c ∈ s.cps.toList, c < 128) ∧ s.length ≤ 49000
theorem split_sub {x y p : Str} (h : p ∈ Txt.split x y) : (∀ c ∈ p.cps.toList, c ∈ x.cps.toList) ∧ p.length ≤ x.length := by
  have e := join_split x y
  constructor
  · intro c hc
    rw [← e]
    exact mem_join h hc
  · have := len_join (y := y) h
    rwa [e] at this
theorem split_ok {x y p : Str} (hx : TxOk x) (h : p ∈ Txt.split x y) : TxOk p := ⟨fun c hc => hx.1 c ((split_sub h).1 c hc), Nat.le_trans (split_sub h).2 hx.2⟩
theorem split_count {x y : Str} (hy : 1 ≤ y.length) : (Txt.split x y).length ≤ x.length + 1 := by
  have := count_join hy (Txt.split x y)
  rwa [join_split] at this
theorem split_ne {x y : Str} (hy : 1 ≤ y.length) : Txt.split x y ≠ [] := fun e => by
  have j := join_split x y
  rw [e] at j
  have hx : x.length < y.length := by
    rw [← j]
    exact hy
  unfold Txt.split at e
  rw [if_pos (by simp [hx])] at e
  cases e
theorem split_one {x y p : Str} (h : Txt.split x y = [p]) : p = x := by
  have := join_split x y
  rw [h] at this
  exact this
/-! ### fractions, points, rings -/
def rF (s : Str) : Option (Int × Int) := match Txt.split s (Str.ofString "/") with
  | [a] => (rW a).map fun n => (n, 1)
  | [a, b] => match rW a, rW b with
    | some x, some y => if 2 ≤ y ∧ Int.gcd x y = 1 then some (x, y) else none
    | _, _ => none
  | _ => none
theorem rF_good {s : Str} {f : Int × Int} (h : rF s = some f) : FrL f ∧ f.1.natAbs < 10 ^ 60 ∧ f.2.natAbs < 10 ^ 60 := by
  have bd : ∀ {k : Int}, k.natAbs < 10 ^ 60 → Bd 700 k := fun {k} h => Nat.lt_trans h (by decide +kernel)
  unfold rF at h
  split at h
  · rename_i a e
    cases hw : rW a with
    | none => rw [hw] at h; cases h
    | some n =>
      rw [hw] at h
      cases h
      have := rW_lt hw
      exact ⟨⟨by show (0 : Int) < 1; decide, by show Int.gcd n 1 = 1; simp, bd this, by show Bd 700 1; unfold Bd; decide +kernel⟩, this, by show (1 : Int).natAbs < 10 ^ 60; decide⟩
  · rename_i a b e
    cases hw : rW a with
    | none => rw [hw] at h; cases h
    | some x =>
      cases hv : rW b with
      | none => rw [hw, hv] at h; cases h
      | some y =>
        rw [hw, hv] at h
        simp only at h
        split at h
        · rename_i z
          cases h
          have h1 := rW_lt hw
          have h2 := rW_lt hv
          exact ⟨⟨by show (0 : Int) < y; omega, z.2, bd h1, bd h2⟩, h1, h2⟩
        · cases h
  · cases h
def rP (s : Str) : Option Pt3 := match Txt.split s (Str.ofString ",") with
  | [a, b] => match rF a, rF b with
    | some x, some y => some (ptF x y)
    | _, _ => none
  | _ => none
def allM {α : Type} (f : Str → Option α) : List Str → Option (List α)
  | [] => some []
  | s :: r => match f s, allM f r with
    | some x, some xs => some (x :: xs)
    | _, _ => none
theorem allM_some {α : Type} {f : Str → Option α} : ∀ {ss : List Str} {xs : List α}, allM f ss = some xs → xs.length = ss.length ∧ ∀ (i : Nat) s, ss[i]? = some s → ∃ x, xs[i]? = some x ∧ f s = some x
  | [], xs, h => by cases h; exact ⟨rfl, fun i s e => by simp at e⟩
  | s :: r, xs, h => by
    unfold allM at h
    cases h1 : f s with
    | none => rw [h1] at h; cases h
    | some x =>
      cases h2 : allM f r with
      | none => rw [h1, h2] at h; cases h
      | some ys =>
        rw [h1, h2] at h
        cases h
        obtain ⟨l, g⟩ := allM_some h2
        refine ⟨by simp [l], fun i s' e => ?_⟩
        cases i with
        | zero => cases e; exact ⟨x, rfl, h1⟩
        | succ i => exact g i s' (by simpa using e)
theorem allM_none {α : Type} {f : Str → Option α} : ∀ {ss : List Str}, allM f ss = none → ∃ (j : Nat) (s : Str), ss[j]? = some s ∧ f s = none ∧ ∀ i s', i < j → ss[i]? = some s' → ∃ x, f s' = some x
  | [], h => by cases h
  | s :: r, h => by
    unfold allM at h
    cases h1 : f s with
    | none => exact ⟨0, s, rfl, h1, fun i s' hi => absurd hi (Nat.not_lt_zero i)⟩
    | some x =>
      cases h2 : allM f r with
      | some ys => rw [h1, h2] at h; cases h
      | none =>
        obtain ⟨j, t, e1, e2, e3⟩ := allM_none h2
        refine ⟨j + 1, t, by simpa using e1, e2, fun i s' hi e => ?_⟩
        cases i with
        | zero => cases e; exact ⟨x, h1⟩
        | succ i => exact e3 i s' (by omega) (by simpa using e)
def rR (s : Str) : Option (List Pt3) := allM rP (Txt.split s (Str.ofString " "))
def rRs (s : Str) : Option (List (List Pt3)) := allM rR (Txt.split s (Str.ofString " | "))
/-! ### wishes -/
def pPart (W : List Str → Option (D × List Str)) : Kd → List Str → Option (D × List Str)
  | .wish, ws => W ws
  | _, [] => none
  | .name, w :: r => if nameOk w = true then some (.str w, r) else none
  | .number, w :: r => (rW w).map fun n => (.int n, r)
def pParts (W : List Str → Option (D × List Str)) : List Kd → List Str → Option (List D × List Str)
  | [], ws => some ([], ws)
  | k :: ks, ws => match pPart W k ws with
    | none => none
    | some (d, r) => match pParts W ks r with
      | none => none
      | some (ds, r') => some (d :: ds, r')
def pW : Nat → List Str → Option (D × List Str)
  | 0, _ => none
  | _ + 1, [] => none
  | n + 1, w :: r => match shp w with
    | none => none
    | some ks => match pParts (pW n) ks r with
      | none => none
      | some (ds, r') => some (.tup (.str w :: ds), r')
def rWi (s : Str) : Option D := match pW 6 (Txt.split s (Str.ofString " ")) with
  | some (d, []) => some d
  | _ => none
end L2

set_option linter.all false
set_option maxRecDepth 100000
set_option maxHeartbeats 4000000
namespace L2
open PySem PySem.Spec PyProof.Rows
/-! ### slices of texts -/
def cutL (xs : List Nat) (lo hi : Option Int) : List Nat := (xs.drop (HT.sIx xs.length 0 lo)).take (HT.sIx xs.length xs.length hi - HT.sIx xs.length 0 lo)
theorem clip_ix (n : Nat) (v : Int) : (max 0 (min (if v < 0 then v + (n : Int) else v) (n : Int))).toNat = HT.sIx n 0 (some v) := by
  show _ = (if v < 0 then (v + (n : Int)).toNat else min v.toNat n)
  split <;> omega
theorem slice_ix (lo hi : Option Int) (n : Nat) : Builtin.Str.strSliceIndices lo hi 1 n = List.range' (HT.sIx n 0 lo) (HT.sIx n n hi - HT.sIx n 0 lo) := by
  have core : ∀ (a b : Int), 0 ≤ a → 0 ≤ b → PySem.sliceRange a b 1 = List.range' a.toNat (b.toNat - a.toNat) := fun a b ha hb => by
    unfold PySem.sliceRange
    simp only [show ((1 : Int) > 0) = True from by simp, if_true, show ¬ ((1 : Int) < 0) by decide, if_false, Int.ediv_one]
    have e2 : (if a < b then b - a + 1 - 1 else 0).toNat = b.toNat - a.toNat := by
      split <;> omega
    rw [e2, List.range'_eq_map_range]
    refine List.map_congr_left fun k _ => ?_
    omega
  unfold Builtin.Str.strSliceIndices
  simp only [show ((1 : Int) > 0) = True from by simp, if_true]
  cases lo with
  | none =>
    cases hi with
    | none =>
      show PySem.sliceRange 0 (n : Int) 1 = _
      rw [core _ _ (by omega) (by omega)]
      rfl
    | some h =>
      show PySem.sliceRange 0 (max 0 (min (if h < 0 then h + (n : Int) else h) (n : Int))) 1 = _
      rw [core _ _ (by omega) (by omega), clip_ix n h]
      rfl
  | some l =>
    cases hi with
    | none =>
      show PySem.sliceRange (max 0 (min (if l < 0 then l + (n : Int) else l) (n : Int))) (n : Int) 1 = _
      rw [core _ _ (by omega) (by omega), clip_ix n l]
      rfl
    | some h =>
      show PySem.sliceRange (max 0 (min (if l < 0 then l + (n : Int) else l) (n : Int))) (max 0 (min (if h < 0 then h + (n : Int) else h) (n : Int))) 1 = _
      rw [core _ _ (by omega) (by omega), clip_ix n l, clip_ix n h]
      rfl
theorem pick_cut {α : Type} (xs : List α) : ∀ (q p : Nat), (List.range' p q).filterMap (fun i => xs[i]?) = (xs.drop p).take q
  | 0, p => by simp
  | q + 1, p => by
    rw [List.range'_succ, List.filterMap_cons]
    cases e : xs[p]? with
    | none =>
      have : xs.length ≤ p := List.getElem?_eq_none_iff.mp e
      rw [pick_cut xs q (p + 1)]
      simp [List.drop_eq_nil_of_le this, List.drop_eq_nil_of_le (Nat.le_succ_of_le this)]
    | some x =>
      obtain ⟨hlt, hx⟩ := List.getElem?_eq_some_iff.mp e
      rw [List.drop_eq_getElem_cons hlt, List.take_succ_cons, hx]
      exact congrArg (x :: ·) (pick_cut xs q (p + 1))
theorem sIx_le (n d : Nat) (hd : d ≤ n) (v : Option Int) : HT.sIx n d v ≤ n := by
  cases v with
  | none => exact hd
  | some v =>
    show (if v < 0 then (v + (n : Int)).toNat else min v.toNat n) ≤ n
    split <;> omega
def rSlS : V → Option Int → Option Int → Hp → VK → Prop := fun x lo hi H Q => ∃ a, x = .str a ∧ a.length ≤ sizeLine ∧ Q (.str ⟨(cutL a.cps.toList lo hi).toArray⟩) H
section
variable {X : Cx}
theorem sl_strG : SlR X rSlS := by
  intro pins s σ H x v vl vu lo hi sl Q I rx hs pl pu h
  obtain ⟨a, rfl, h2, q⟩ := h
  obtain ⟨t, rfl⟩ := rx
  have key : ∀ (l u : Option (Int × Tok)), l.map (·.1) = lo → u.map (·.1) = hi → s.heap.IsSlice sl l u none → ∃ T id, typeLookup (.type T) "__getitem__" = pure (some (.builtin id)) ∧ s.TypeIs (.str a t) T ∧ wpAny (model X.prog X.w) X.A (getItem (.str a t) (.ref sl)) (EP X pins σ Q) X.xe s := fun l u e1 e2 hs' => by
    refine ⟨"str", _, PySem.F.slot_str_getitem.lookup, typeIs_str _ _ _, ?_⟩
    refine wpAny_getItem_str_slice (l := l) (u := u) (st := none) hs' rfl ?_
    have e : slicePicked a l u none = List.range' (HT.sIx a.length 0 lo) (HT.sIx a.length a.length hi - HT.sIx a.length 0 lo) := by
      rw [← e1, ← e2]
      exact slice_ix _ _ _
    have e3 : (List.range' (HT.sIx a.length 0 lo) (HT.sIx a.length a.length hi - HT.sIx a.length 0 lo)).filterMap (fun i => a.cps[i]?) = cutL a.cps.toList lo hi := by
      unfold cutL
      rw [len_list, ← pick_cut]
      congr 1
      funext i
      simp
    unfold sliceMade
    rw [e]
    split
    · rename_i z
      simp only [Option.map_none, Option.getD_none, beq_self_eq_true, Bool.true_and, List.length_range', beq_iff_eq] at z
      have hl := sIx_le a.length 0 (Nat.zero_le _) lo
      have hh := sIx_le a.length a.length (Nat.le_refl _) hi
      have ew : cutL a.cps.toList lo hi = a.cps.toList := by
        unfold cutL
        rw [len_list]
        have : HT.sIx a.length 0 lo = 0 := by omega
        rw [this, List.drop_zero]
        exact List.take_of_length_le (by rw [len_list]; omega)
      rw [ew] at q
      exact ⟨V.str a, H, I, ⟨t, rfl⟩, q⟩
    · rw [e3]
      refine ⟨?_, V.str _, H, I.tok _, ⟨_, rfl⟩, q⟩
      show (cutL a.cps.toList lo hi).toArray.size ≤ sizeLine
      rw [List.size_toArray]
      unfold cutL
      rw [List.length_take, List.length_drop, len_list]
      omega
  cases pl with
  | int i tk =>
    cases pu with
    | int j tk' => exact key (some (i, tk)) (some (j, tk')) rfl rfl hs
    | none => exact key (some (i, tk)) none rfl rfl hs
  | none =>
    cases pu with
    | int j tk' => exact key none (some (j, tk')) rfl rfl hs
    | none => exact key none none rfl rfl hs
/-! ### xs == [] -/
theorem op_eqNil (hu : X.A.units + 64 < cLine) : OpR X (compareOp .Eq) (fun x y H Q => ∃ a b xs, x = .ref a ∧ y = .ref b ∧ H a = some (.lst xs) ∧ H b = some (.lst []) ∧ Q (.bl xs.isEmpty) H) := by
  intro pins s σ H x y v u Q I rx ry h
  obtain ⟨a, b, xs, rfl, rfl, ha, hb, q⟩ := h
  cases rx
  cases ry
  obtain ⟨its, rv, pl, _⟩ := I.list (SqL.of (K := X.K) ha)
  obtain ⟨its', rv', pl', _⟩ := I.list (SqL.of (K := X.K) hb)
  cases rv'
  cases rv with
  | nil => exact SeqAt.eq_listAt (e := fun _ => true) pl.isList pl'.isList rfl (by omega) (fun j h1 => absurd h1 (by simp)) ⟨.bl true, H, I, rfl, q⟩
  | cons _ _ => exact SeqAt.eq_list_lengthsAt pl.isList pl'.isList (by simp) (by omega) ⟨.bl false, H, I, rfl, q⟩
theorem op_neNil (hu : X.A.units + 64 < cLine) : OpR X (compareOp .NotEq) (fun x y H Q => ∃ a b ns, x = .ref a ∧ y = .ref b ∧ H a = some (.lst (List.map V.int ns)) ∧ H b = some (.lst []) ∧ ns.length ≤ 1 ∧ Q (.bl (!ns.isEmpty)) H) := by
  intro pins s σ H x y v u Q I rx ry h
  obtain ⟨a, b, ns, rfl, rfl, ha, hb, hl, q⟩ := h
  have h1 : Dat X.K H 8 (.ref a) (.list (ns.map PyData.int)) := .lst (SqL.of ha) (dats_ints ns)
  have h2 : Dat X.K H 8 (.ref b) (.list []) := .lst (SqL.of hb) .nil
  obtain ⟨as, r1⟩ := I.dat rfl h1 _ rx
  obtain ⟨bs, r2⟩ := I.dat rfl h2 _ ry
  refine PyProof.Rows.ne_dataH r1 r2 (h1.shaped (by decide)) (h2.shaped (by decide)) hu (fin_bl I q ?_)
  match ns, hl with
  | [], _ => rfl
  | [n], _ => rfl
/-! ### things alike -/
mutual
def pd : D → PyData
  | .non => .none
  | .bl b => .bool b
  | .int n => .int n
  | .str s => .str s
  | .tup ds => .tuple (pds ds)
  | .lst ds => .list (pds ds)
  | .dct => .none
def pds : List D → List PyData
  | [] => []
  | d :: r => pd d :: pds r
end
mutual
/-- no truths, no dicts, not too deep -/
def okD : Nat → D → Bool
  | _, .int _ => true
  | _, .str s => PyData.strOk s
  | k + 1, .tup ds => okDs k ds
  | k + 1, .lst ds => okDs k ds
  | _, _ => false
def okDs : Nat → List D → Bool
  | _, [] => true
  | k, d :: r => okD k d && okDs k r
end
open PySem.SeqAt PyProof.V in
mutual
theorem okD_can : ∀ (k : Nat) (d : D), okD k d = true → (pd d).canLay0 = true ∧ (pd d).depth ≤ k ∧ noMix (pd d) (pd d) = true
  | k, .int n, _ => by cases k <;> simp [pd, PyData.canLay0, PyData.depth, noMix]
  | k, .str s, h => by
    have h' : PyData.strOk s = true := by cases k <;> exact h
    cases k <;> simp [pd, PyData.canLay0, PyData.depth, noMix, h']
  | k + 1, .tup ds, h => by
    have := okDs_can k ds (by simpa [okD] using h)
    simp only [pd, PyData.canLay0, PyData.depth, noMix]
    exact ⟨this.1, by omega, this.2.2⟩
  | k + 1, .lst ds, h => by
    have := okDs_can k ds (by simpa [okD] using h)
    simp only [pd, PyData.canLay0, PyData.depth, noMix]
    exact ⟨this.1, by omega, this.2.2⟩
  | 0, .tup ds, h => by cases h
  | 0, .lst ds, h => by cases h
  | k, .non, h => by cases k <;> cases h
  | k, .bl b, h => by cases k <;> cases h
  | k, .dct, h => by cases k <;> cases h
theorem okDs_can : ∀ (k : Nat) (ds : List D), okDs k ds = true → PyData.canLayAll0 (pds ds) = true ∧ PyData.depthAll (pds ds) ≤ k ∧ noMixAll (pds ds) (pds ds) = true
  | k, [], _ => by simp [pds, PyData.canLayAll0, PyData.depthAll, noMixAll]
  | k, d :: r, h => by
    have hh : okD k d = true ∧ okDs k r = true := by simpa [okDs] using h
    have h1 := okD_can k d hh.1
    have h2 := okDs_can k r hh.2
    simp only [pds, PyData.canLayAll0, PyData.depthAll, noMixAll, Bool.and_eq_true]
    exact ⟨⟨h1.1, h2.1⟩, by omega, h1.2.2, h2.2.2⟩
end
section
variable {pins : List (Addr × Obj)} {σ : St} {H : Hp} {s : Shared} {hd : Addr}
mutual
theorem Inv.datD (I : Inv X pins σ H s) : ∀ {k : Nat} {v : V} {d : D}, DAt hd H v d → okD k d = true → ∀ u, RelV v u → ∃ as, Reads s.heap u (pd d) as
  | _, _, _, .int n, _, _, r => by
    obtain ⟨t, rfl⟩ := (show ∃ t, _ = Value.int n t from r)
    exact ⟨_, Reads.int n t⟩
  | _, _, _, .str x _, _, _, r => by
    obtain ⟨t, rfl⟩ := (show ∃ t, _ = Value.str x t from r)
    exact ⟨_, Reads.str x t⟩
  | k + 1, _, _, .tup h t, e, _, r => by
    cases r
    obtain ⟨its, rv, p, _⟩ := I.tuple (SqT.of (K := X.K) h)
    obtain ⟨o, ho, hc, n, hd⟩ := p
    obtain ⟨as, ra⟩ := Inv.datsD I t (k := k) (by simpa [okD] using e) _ rv
    exact ⟨_, Reads.tuple ho hc hd (by simpa using ra)⟩
  | k + 1, _, _, .lst h _ t, e, _, r => by
    cases r
    obtain ⟨its, rv, pl, _⟩ := I.list (SqL.of (K := X.K) h)
    obtain ⟨o, ho, hc, n, hd⟩ := pl.isList
    obtain ⟨as, ra⟩ := Inv.datsD I t (k := k) (by simpa [okD] using e) _ rv
    exact ⟨_, Reads.list ho hc hd (by simpa using ra)⟩
  | 0, _, _, .tup _ _, e, _, _ => by cases e
  | 0, _, _, .lst _ _ _, e, _, _ => by cases e
  | k, _, _, .non, e, _, _ => by cases k <;> cases e
  | k, _, _, .bl _, e, _, _ => by cases k <;> cases e
  | k, _, _, .dct _, e, _, _ => by cases k <;> cases e
theorem Inv.datsD (I : Inv X pins σ H s) : ∀ {k : Nat} {vs : List V} {ds : List D}, DsAt hd H vs ds → okDs k ds = true → ∀ us, Vals vs us → ∃ as, ReadsAll s.heap us (pds ds) as
  | _, _, _, .nil, _, _, .nil => ⟨_, .nil⟩
  | k, _, _, .cons (d := d0) (ds := ds0) p q, e, _, .cons r t => by
    have hh : okD k d0 = true ∧ okDs k ds0 = true := by simpa [okDs] using e
    obtain ⟨as, h1⟩ := Inv.datD I p hh.1 _ r
    obtain ⟨bs, h2⟩ := Inv.datsD I q hh.2 _ t
    exact ⟨_, .cons h1 h2⟩
end
end
theorem op_eqD (hu : X.A.units + 64 < cLine) : OpR X (compareOp .Eq) (fun x y H Q => ∃ hd hd' d, DAt hd H x d ∧ DAt hd' H y d ∧ okD 20 d = true ∧ Q (.bl true) H) := by
  intro pins s σ H x y v u Q I rx ry h
  obtain ⟨hd, hd', d, h1, h2, ok, q⟩ := h
  obtain ⟨as, r1⟩ := I.datD h1 ok _ rx
  obtain ⟨bs, r2⟩ := I.datD h2 ok _ ry
  have c := okD_can 20 d ok
  have sh : PySem.SeqAt.shaped (pd d) = true := by
    show (PyData.canLay0 (pd d) && decide (PyData.depth (pd d) ≤ 64)) = true
    rw [Bool.and_eq_true]
    exact ⟨c.1, decide_eq_true (by omega)⟩
  refine PyProof.Rows.eq_dataH_same r1 r2 sh sh hu c.2.2 (fin_bl I q ?_)
  rw [same_self]
  all_goals rfl
end
theorem strOk_of {s : Str} (h : ∀ c ∈ s.cps.toList, c < 128) : PyData.strOk s = true := by
  unfold PyData.strOk
  rw [Array.all_eq_true']
  intro c hc
  have := h c (by simpa using hc)
  exact decide_eq_true (by omega)
/-! ### comprehensions whose elements are read, whatever they are -/
mutual
theorem DAt.butD {hd D : Addr} {H H' : Hp} {ys : List V} (hy : H D = some (.lst ys)) (s : SameB D H H') : ∀ {v : V} {d : L2.D}, DAt hd H v d → DAt D H v d → DAt hd H' v d
  | _, _, .non, _ => .non
  | _, _, .bl b, _ => .bl b
  | _, _, .int n, _ => .int n
  | _, _, .str x h, _ => .str x h
  | _, _, .tup h t, .tup h' t' => by
    rw [h] at h'
    cases h'
    exact .tup (s _ _ h fun e => by rw [e, hy] at h; cases h) (DsAt.butD hy s t t')
  | _, _, .lst h n t, .lst h' n' t' => by
    rw [h] at h'
    cases h'
    exact .lst (s _ _ h n') n (DsAt.butD hy s t t')
  | _, _, .dct h, _ => .dct (s _ _ h fun e => by rw [e, hy] at h; cases h)
theorem DsAt.butD {hd D : Addr} {H H' : Hp} {ys : List V} (hy : H D = some (.lst ys)) (s : SameB D H H') : ∀ {vs : List V} {ds : List L2.D}, DsAt hd H vs ds → DsAt D H vs ds → DsAt hd H' vs ds
  | _, _, .nil, _ => .nil
  | _, _, .cons h t, .cons h' t' => .cons (DAt.butD hy s h h') (DsAt.butD hy s t t')
end
theorem DsAt.snoc' {hd : Addr} {H : Hp} : ∀ {vs : List V} {ds : List D} {v : V} {d : D}, DsAt hd H vs ds → DAt hd H v d → DsAt hd H (vs ++ [v]) (ds ++ [d])
  | _, _, _, _, .nil, h => .cons h .nil
  | _, _, _, _, .cons a t, h => .cons a (DsAt.snoc' t h)
/-- a new thing: it holds none of the lists that stood there -/
def New (H H' : Hp) (v : V) (d : D) : Prop := ∀ hd, H hd ≠ none → DAt hd H' v d
section
variable {σ : St} {H : Hp} {te tl : TE} {fr : St → St} {k : Nat} {K : PySem.W.Frag} {a : Addr} {xs : List V}
theorem gv_compRd {ds : List D} (hl : Pu tl σ H (.ref a)) (ha : H a = some (.lst xs)) (hz : xs.length ≤ 1000000) (hk : ∀ x, KeepS (fr σ) ((fr σ).set k (some x))) (hlen : ds.length = xs.length)
    (hs : ∀ (i : Nat) x d H', xs[i]? = some x → ds[i]? = some d → Same H H' → Gv te ((fr σ).set k (some x)) H' (fun v H'' => Same H' H'' ∧ New H' H'' v d)) :
    Gv (tComp (iList K tl) fr (gName k) te) σ H (fun v H' => Same H H' ∧ ∃ D ys, v = .ref D ∧ H D = none ∧ H' D = some (.lst ys) ∧ ∀ hd, H hd ≠ none → DsAt hd H' ys ds) := by
  intro Q g
  refine hl _ ⟨a, rfl, ⟨xs, SqL.of ha⟩, fun D hD => ?_⟩
  refine ⟨fun i m ys H' => m = xs.length - i ∧ i ≤ xs.length ∧ ys.length = i ∧ Same H H' ∧ H' D = some (.lst ys) ∧ ∀ hd, (H hd ≠ none ∨ hd = D) → DsAt hd H' ys (ds.take i), ⟨_, rfl, Nat.zero_le _, rfl, Same.upd hD, upd_same, fun hd _ => .nil⟩, ?_⟩
  rintro i m ys H' ⟨rfl, hi, hy, s', hD', hR⟩
  by_cases hlt : i < xs.length
  · refine .inr ⟨⟨xs, xs[i], SqL.of (s' _ _ ha), by simp [hlt]⟩, Nat.lt_of_le_of_lt (show ys.length ≤ 1000000 by omega) (by decide), fun x H3 y => ?_⟩
    obtain ⟨e, y⟩ := y
    subst e
    have hx : xs[i]? = some x := y xs (SqL.of (s' _ _ ha))
    have hdi : ds[i]? = some ds[i] := List.getElem?_eq_getElem (by omega)
    refine ⟨hk x, hs i x _ _ hx hdi s' _ fun v H4 ⟨s4, r4⟩ => ⟨s4 _ _ hD', _, by omega, rfl, hlt, by simp [hy], same_updNew (s'.trans s4) hD, upd_same, fun hd hh => ?_⟩⟩
    have hD4 := s4 _ _ hD'
    have up : SameB D H4 (upd H4 D (.lst (ys ++ [v]))) := SameB.upd
    have nn : H3 hd ≠ none := by
      rcases hh with h | h
      · cases c : H hd with
        | none => exact absurd c h
        | some o => rw [s' _ _ c]; exact fun z => by cases z
      · rw [h, hD']; exact fun z => by cases z
    have nD : H3 D ≠ none := by rw [hD']; exact fun z => by cases z
    rw [List.take_succ, hdi]
    exact DsAt.snoc' (DsAt.butD hD4 up ((hR hd hh).same s4) ((hR D (.inr rfl)).same s4)) (DAt.butD hD4 up (r4 hd nn) (r4 D nD))
  · have e : i = xs.length := by omega
    subst e
    refine .inl ⟨⟨xs, SqL.of (s' _ _ ha), Nat.le_refl _⟩, g _ _ ⟨s', D, ys, rfl, hD, hD', fun hd h => ?_⟩⟩
    have := hR hd (.inl h)
    rwa [← hlen, List.take_length] at this
theorem gv_compBad2 {j : Nat} (hl : Pu tl σ H (.ref a)) (ha : H a = some (.lst xs)) (hz : xs.length ≤ 1000000) (hj : j < xs.length) (hk : ∀ x, KeepS (fr σ) ((fr σ).set k (some x)))
    (hs : ∀ (i : Nat) x H', i < j → xs[i]? = some x → Same H H' → Gv te ((fr σ).set k (some x)) H' (fun _ H'' => Same H' H'')) (hb : ∀ x H', xs[j]? = some x → Same H H' → Gv te ((fr σ).set k (some x)) H' (fun _ _ => False)) : Gv (tComp (iList K tl) fr (gName k) te) σ H (fun _ _ => False) := by
  intro Q g
  refine hl _ ⟨a, rfl, ⟨xs, SqL.of ha⟩, fun D hD => ?_⟩
  refine ⟨fun i m ys H' => m = xs.length - i ∧ i ≤ j ∧ ys.length = i ∧ Same H H' ∧ H' D = some (.lst ys), ⟨_, rfl, Nat.zero_le _, rfl, Same.upd hD, upd_same⟩, ?_⟩
  rintro i m ys H' ⟨rfl, hi, hy, s', hD'⟩
  have hlt : i < xs.length := by omega
  refine .inr ⟨⟨xs, xs[i], SqL.of (s' _ _ ha), by simp [hlt]⟩, Nat.lt_of_le_of_lt (show ys.length ≤ 1000000 by omega) (by decide), fun x H3 y => ?_⟩
  obtain ⟨e, y⟩ := y
  subst e
  have ex := y xs (SqL.of (s' _ _ ha))
  by_cases hij : i < j
  · exact ⟨hk x, hs i x _ hij ex s' _ fun v H4 s4 => ⟨s4 _ _ hD', xs.length - (i + 1), by omega, rfl, by omega, by simp [hy], same_updNew (s'.trans s4) hD, upd_same⟩⟩
  · have : i = j := by omega
    subst this
    exact ⟨hk x, hb x _ ex s' _ fun v H4 h => h.elim⟩
end
end L2

set_option linter.all false
set_option maxRecDepth 100000
set_option maxHeartbeats 4000000
namespace L2
open PySem PySem.StrLaws PySem.Builtin PyProof.Rows
/-! ### slices -/
theorem six_nat (n d k : Nat) : HT.sIx n d (some (k : Int)) = min k n := by
  show (if ((k : Int)) < 0 then (((k : Int)) + (n : Int)).toNat else min ((k : Int)).toNat n) = _
  rw [if_neg (by omega)]
  rfl
theorem cut_from {α : Type} (xs : List α) (k : Nat) : (xs.drop (HT.sIx xs.length 0 (some (k : Int)))).take (HT.sIx xs.length xs.length none - HT.sIx xs.length 0 (some (k : Int))) = xs.drop k := by
  rw [six_nat]
  show (xs.drop (min k xs.length)).take (xs.length - min k xs.length) = _
  rw [List.take_of_length_le (by rw [List.length_drop]; omega)]
  rcases Nat.le_total k xs.length with h | h
  · rw [Nat.min_eq_left h]
  · rw [Nat.min_eq_right h, List.drop_length, List.drop_eq_nil_of_le h]
theorem cut_to {α : Type} (xs : List α) (k : Nat) : (xs.drop (HT.sIx xs.length 0 none)).take (HT.sIx xs.length xs.length (some (k : Int)) - HT.sIx xs.length 0 none) = xs.take k := by
  rw [six_nat]
  show (xs.drop 0).take (min k xs.length - 0) = _
  rw [List.drop_zero, Nat.sub_zero]
  rcases Nat.le_total k xs.length with h | h
  · rw [Nat.min_eq_left h]
  · rw [Nat.min_eq_right h, List.take_length, List.take_of_length_le h]
theorem cut_mid {α : Type} (xs : List α) (k j : Nat) (hj : k + j ≤ xs.length) : (xs.drop (HT.sIx xs.length 0 (some (k : Int)))).take (HT.sIx xs.length xs.length (some ((k + j : Nat) : Int)) - HT.sIx xs.length 0 (some (k : Int))) = (xs.drop k).take j := by
  rw [six_nat, six_nat, Nat.min_eq_left (by omega), Nat.min_eq_left (by omega)]
  congr 1
  omega
section
variable {σ : St} {H : Hp} {to tk tj : TE} {s : Str} {K : PySem.W.Frag} {a : Addr} {xs : List V}
theorem pu_sFrom {k : Nat} (ho : Pu to σ H (.str s)) (hk : Pu tk σ H (.int (k : Int))) (hz : s.length ≤ sizeLine) : Pu (tSl rSlS to (tPart tk) tNoPart) σ H (.str ⟨(s.cps.toList.drop k).toArray⟩) := fun Q q =>
  ho _ (hk _ ⟨_, rfl, s, rfl, hz, by unfold cutL; rw [cut_from]; exact q⟩)
theorem pu_sTo {k : Nat} (ho : Pu to σ H (.str s)) (hk : Pu tk σ H (.int (k : Int))) (hz : s.length ≤ sizeLine) : Pu (tSl rSlS to tNoPart (tPart tk)) σ H (.str ⟨(s.cps.toList.take k).toArray⟩) := fun Q q =>
  ho _ (hk _ ⟨_, rfl, s, rfl, hz, by unfold cutL; rw [cut_to]; exact q⟩)
theorem pu_sMid (lo hi : Int) (ho : Pu to σ H (.str s)) (hk : Pu tk σ H (.int lo)) (hj : Pu tj σ H (.int hi)) (hz : s.length ≤ sizeLine) : Pu (tSl rSlS to (tPart tk) (tPart tj)) σ H (.str ⟨(cutL s.cps.toList (some lo) (some hi)).toArray⟩) := fun Q q =>
  ho _ (hk _ ⟨_, rfl, hj _ ⟨_, rfl, s, rfl, hz, q⟩⟩)
theorem gv_lFrom {k : Nat} (ho : Pu to σ H (.ref a)) (hk : Pu tk σ H (.int (k : Int))) (hl : H a = some (.lst xs)) : Gv (tSl (rSlL K) to (tPart tk) tNoPart) σ H (fun v H' => ∃ p, H p = none ∧ v = .ref p ∧ H' = upd H p (.lst (xs.drop k))) := fun Q q =>
  ho _ (hk _ ⟨_, rfl, a, xs, rfl, SqL.of hl, fun p hp => by unfold cutV; rw [cut_from]; exact q _ _ ⟨p, hp, rfl, rfl⟩⟩)
theorem gv_lTo {k : Nat} (ho : Pu to σ H (.ref a)) (hk : Pu tk σ H (.int (k : Int))) (hl : H a = some (.lst xs)) : Gv (tSl (rSlL K) to tNoPart (tPart tk)) σ H (fun v H' => ∃ p, H p = none ∧ v = .ref p ∧ H' = upd H p (.lst (xs.take k))) := fun Q q =>
  ho _ (hk _ ⟨_, rfl, a, xs, rfl, SqL.of hl, fun p hp => by unfold cutV; rw [cut_to]; exact q _ _ ⟨p, hp, rfl, rfl⟩⟩)
theorem pu_ixS' {ti : TE} {i : Int} {c : Nat} (ho : Pu to σ H (.str s)) (hi : Pu ti σ H (.int i)) (hz : s.length ≤ sizeLine) (ha : atI s.cps.toList i = some c) : Pu (tOp rIxS to ti) σ H (.str ⟨#[c]⟩) := fun _ q => ho _ (hi _ ⟨s, i, c, rfl, rfl, hz, ha, q⟩)
theorem pu_notInS {ta tb : TE} {c : Nat} {y : Str} (ha : Pu ta σ H (.str ⟨#[c]⟩)) (hb : Pu tb σ H (.str y)) : Pu (tOp (fun x y H Q => ∃ i j, x = .str i ∧ y = .str j ∧ Q (.bl (!(!(Builtin.Str.occurrences j i 0 j.length 1).isEmpty))) H) ta tb) σ H (.bl (!decide (c ∈ y.cps.toList))) := fun _ q => ha _ (hb _ ⟨_, _, rfl, rfl, by rw [found_one]; exact q⟩)
theorem gv_opG' {r : V → V → Hp → VK → Prop} {ta tb : TE} {R1 : V → Hp → Prop} {R2 : V → V → Hp → Prop} {R : V → Hp → Prop} (ha : Gv ta σ H R1) (hb : ∀ x H1, R1 x H1 → Gv tb σ H1 (R2 x)) (hr : ∀ x y H2, R2 x y H2 → ∀ Q : VK, (∀ v H', R v H' → Q v H') → r x y H2 Q) : Gv (tOp r ta tb) σ H R := fun Q q => ha _ fun x H1 h1 => hb x H1 h1 _ fun y H2 h2 => hr x y H2 h2 Q q
/-- for c in text -/
theorem st_strl {g : TG} {tb rest : TS} {D : Ends} {te : TE} (ha : Pu te σ H (.str s)) (h128 : ∀ c ∈ s.cps.toList, c < 128) (Pv : Nat → St → Hp → Prop) (h0 : Pv 0 σ H)
    (hs : ∀ (i : Nat) c σ H, s.cps.toList[i]? = some c → Pv i σ H → g (.str ⟨#[c]⟩) σ H fun σ2 H2 => tb { D with nx := Pv (i + 1), ct := Pv (i + 1), bk := rest D } σ2 H2) (hd : ∀ σ H, Pv s.length σ H → rest D σ H) :
    tSeq (tFor (iStr te) g tb) rest D σ H := by
  refine ha _ ⟨s, rfl, h128, fun i m σ H => m = s.length - i ∧ i ≤ s.length ∧ Pv i σ H, ⟨s.length, by simp, Nat.zero_le _, h0⟩, ?_⟩
  rintro i m σ H ⟨rfl, hi, p⟩
  by_cases hlt : i < s.length
  · refine .inr ⟨hlt, Pv (i + 1), fun σ' H' p' => ⟨s.length - (i + 1), by omega, rfl, hlt, p'⟩, fun x H' y => ?_⟩
    obtain ⟨e, c, ex, e2⟩ := y
    subst e e2
    exact hs i c σ _ ex p
  · have e : i = s.length := by omega
    subst e
    exact .inl ⟨Nat.le_refl _, hd σ H p⟩
end
end L2

set_option maxHeartbeats 4000000
namespace My
open PySem PySem.Spec PyProof.Rows L2
def top (i : Nat) : Stmt := PySem.Challenge.pw_plymap_k94_refused_texts.main.body.getD i (.Pass ⟨0, 0, 0, 0⟩)
def s_is_name : Stmt := top 9
def s_is_whole : Stmt := top 11
def s_divisor_of : Stmt := top 12
def s_is_fraction : Stmt := top 13
def s_point_by : Stmt := top 15
def s_point_of : Stmt := top 16
def s_shape_of : Stmt := top 20
def s_check_text : Stmt := top 24
def s_read_whole : Stmt := top 25
def s_read_fraction : Stmt := top 26
def s_read_point : Stmt := top 27
def s_read_ring : Stmt := top 28
def s_read_rings : Stmt := top 29
def s_read_name : Stmt := top 30
def s_part_from : Stmt := top 31
def s_wish_from : Stmt := top 32
def s_read_wish : Stmt := top 33
def s_l_hand : Stmt := top 35
def s_l_next : Stmt := top 36
def s_l_take : Stmt := top 37
def s_l_draw : Stmt := top 38
def s_l_divisor : Stmt := top 39
def s_l_point : Stmt := top 40
def s_l_number : Stmt := top 41
def s_l_fraction : Stmt := top 42
def s_l_text : Stmt := top 43
def s_l_point_by : Stmt := top 44
def s_l_name : Stmt := top 45
def s_l_wish : Stmt := top 46
def s_l_written : Stmt := top 47
def s_l_ask : Stmt := top 48
def s_l_no_text : Stmt := top 49
def s_l_good : Stmt := top 50
def s_l_word : Stmt := top 51
def s_l_spoilt_words : Stmt := top 52
def s_l_spoilt : Stmt := top 53
def s_l_top : Stmt := top 54
def s_l_fraction_by : Stmt := top 55
def s_l_point_read : Stmt := top 56
def s_l_rings_read : Stmt := top 57
def s_l_is_name : Stmt := top 58
def s_l_wish_from : Stmt := top 59
def s_l_due : Stmt := top 60
def s_l_right : Stmt := top 61
def s_law : Stmt := top 62
structure Adr where
  f_is_name : Addr
  d_is_name : FuncData
  f_is_whole : Addr
  d_is_whole : FuncData
  f_divisor_of : Addr
  d_divisor_of : FuncData
  f_is_fraction : Addr
  d_is_fraction : FuncData
  f_point_by : Addr
  d_point_by : FuncData
  f_point_of : Addr
  d_point_of : FuncData
  f_shape_of : Addr
  d_shape_of : FuncData
  f_check_text : Addr
  d_check_text : FuncData
  f_read_whole : Addr
  d_read_whole : FuncData
  f_read_fraction : Addr
  d_read_fraction : FuncData
  f_read_point : Addr
  d_read_point : FuncData
  f_read_ring : Addr
  d_read_ring : FuncData
  f_read_rings : Addr
  d_read_rings : FuncData
  f_read_name : Addr
  d_read_name : FuncData
  f_part_from : Addr
  d_part_from : FuncData
  f_wish_from : Addr
  d_wish_from : FuncData
  f_read_wish : Addr
  d_read_wish : FuncData
  f_l_hand : Addr
  d_l_hand : FuncData
  f_l_next : Addr
  d_l_next : FuncData
  f_l_take : Addr
  d_l_take : FuncData
  f_l_draw : Addr
  d_l_draw : FuncData
  f_l_divisor : Addr
  d_l_divisor : FuncData
  f_l_point : Addr
  d_l_point : FuncData
  f_l_number : Addr
  d_l_number : FuncData
  f_l_fraction : Addr
  d_l_fraction : FuncData
  f_l_text : Addr
  d_l_text : FuncData
  f_l_point_by : Addr
  d_l_point_by : FuncData
  f_l_name : Addr
  d_l_name : FuncData
  f_l_wish : Addr
  d_l_wish : FuncData
  f_l_written : Addr
  d_l_written : FuncData
  f_l_ask : Addr
  d_l_ask : FuncData
  f_l_no_text : Addr
  d_l_no_text : FuncData
  f_l_good : Addr
  d_l_good : FuncData
  f_l_word : Addr
  d_l_word : FuncData
  f_l_spoilt_words : Addr
  d_l_spoilt_words : FuncData
  f_l_spoilt : Addr
  d_l_spoilt : FuncData
  f_l_top : Addr
  d_l_top : FuncData
  f_l_fraction_by : Addr
  d_l_fraction_by : FuncData
  f_l_point_read : Addr
  d_l_point_read : FuncData
  f_l_rings_read : Addr
  d_l_rings_read : FuncData
  f_l_is_name : Addr
  d_l_is_name : FuncData
  f_l_wish_from : Addr
  d_l_wish_from : FuncData
  f_l_due : Addr
  d_l_due : FuncData
  f_l_right : Addr
  d_l_right : FuncData
  f_law : Addr
  d_law : FuncData
  c_SHAPES : Addr
  c_NoText : Addr
  c_PlyError : Addr
  c_BadWish : Addr
  c_NoNumber : Addr
  c_NoPoint : Addr
structure Txt (K : PySem.W.Frag) (mg : Str → Option Value) (t : Adr) (w : World) : Prop where
  is_name : Fn K mg "is_name" s_is_name t.f_is_name t.d_is_name ["thing"]
  is_whole : Fn K mg "is_whole" s_is_whole t.f_is_whole t.d_is_whole ["thing"]
  divisor_of : Fn K mg "divisor_of" s_divisor_of t.f_divisor_of t.d_divisor_of ["one", "other"]
  is_fraction : Fn K mg "is_fraction" s_is_fraction t.f_is_fraction t.d_is_fraction ["thing"]
  point_by : Fn K mg "point_by" s_point_by t.f_point_by t.d_point_by ["a", "b", "c"]
  point_of : Fn K mg "point_of" s_point_of t.f_point_of t.d_point_of ["x", "y"]
  shape_of : Fn K mg "shape_of" s_shape_of t.f_shape_of t.d_shape_of ["word"]
  check_text : Fn K mg "check_text" s_check_text t.f_check_text t.d_check_text ["text"]
  read_whole : Fn K mg "read_whole" s_read_whole t.f_read_whole t.d_read_whole ["text"]
  read_fraction : Fn K mg "read_fraction" s_read_fraction t.f_read_fraction t.d_read_fraction ["text"]
  read_point : Fn K mg "read_point" s_read_point t.f_read_point t.d_read_point ["text"]
  read_ring : Fn K mg "read_ring" s_read_ring t.f_read_ring t.d_read_ring ["text"]
  read_rings : Fn K mg "read_rings" s_read_rings t.f_read_rings t.d_read_rings ["text"]
  read_name : Fn K mg "read_name" s_read_name t.f_read_name t.d_read_name ["text"]
  part_from : Fn K mg "part_from" s_part_from t.f_part_from t.d_part_from ["kind", "words", "depth"]
  wish_from : Fn K mg "wish_from" s_wish_from t.f_wish_from t.d_wish_from ["words", "depth"]
  read_wish : Fn K mg "read_wish" s_read_wish t.f_read_wish t.d_read_wish ["text"]
  l_hand : Fn K mg "_law_hand" s_l_hand t.f_l_hand t.d_l_hand ["_law_script"]
  l_next : Fn K mg "_law_next" s_l_next t.f_l_next t.d_l_next ["_law_hand_here"]
  l_take : Fn K mg "_law_take" s_l_take t.f_l_take t.d_l_take ["_law_hand_here"]
  l_draw : Fn K mg "_law_draw" s_l_draw t.f_l_draw t.d_l_draw ["_law_hand_here", "_law_many"]
  l_divisor : Fn K mg "_law_divisor" s_l_divisor t.f_l_divisor t.d_l_divisor ["_law_one", "_law_other"]
  l_point : Fn K mg "_law_point" s_l_point t.f_l_point t.d_l_point ["_law_a", "_law_b", "_law_c"]
  l_number : Fn K mg "_law_number" s_l_number t.f_l_number t.d_l_number ["_law_hand_here"]
  l_fraction : Fn K mg "_law_fraction" s_l_fraction t.f_l_fraction t.d_l_fraction ["_law_hand_here"]
  l_text : Fn K mg "_law_text" s_l_text t.f_l_text t.d_l_text ["_law_one"]
  l_point_by : Fn K mg "_law_point_by" s_l_point_by t.f_l_point_by t.d_l_point_by ["_law_x", "_law_y"]
  l_name : Fn K mg "_law_name" s_l_name t.f_l_name t.d_l_name ["_law_hand_here"]
  l_wish : Fn K mg "_law_wish" s_l_wish t.f_l_wish t.d_l_wish ["_law_hand_here", "_law_deep"]
  l_written : Fn K mg "_law_written" s_l_written t.f_l_written t.d_l_written ["_law_wish_here"]
  l_ask : Fn K mg "_law_ask" s_l_ask t.f_l_ask t.d_l_ask ["_law_door", "_law_thing"]
  l_no_text : Fn K mg "_law_no_text" s_l_no_text t.f_l_no_text t.d_l_no_text ["_law_door", "_law_thing"]
  l_good : Fn K mg "_law_good" s_l_good t.f_l_good t.d_l_good ["_law_hand_here", "_law_door"]
  l_word : Fn K mg "_law_word" s_l_word t.f_l_word t.d_l_word ["_law_hand_here"]
  l_spoilt_words : Fn K mg "_law_spoilt_words" s_l_spoilt_words t.f_l_spoilt_words t.d_l_spoilt_words ["_law_hand_here", "_law_text_here"]
  l_spoilt : Fn K mg "_law_spoilt" s_l_spoilt t.f_l_spoilt t.d_l_spoilt ["_law_hand_here", "_law_text_here"]
  l_top : Fn K mg "_law_top" s_l_top t.f_l_top t.d_l_top ["_law_text_here"]
  l_fraction_by : Fn K mg "_law_fraction_by" s_l_fraction_by t.f_l_fraction_by t.d_l_fraction_by ["_law_text_here"]
  l_point_read : Fn K mg "_law_point_read" s_l_point_read t.f_l_point_read t.d_l_point_read ["_law_text_here"]
  l_rings_read : Fn K mg "_law_rings_read" s_l_rings_read t.f_l_rings_read t.d_l_rings_read ["_law_text_here"]
  l_is_name : Fn K mg "_law_is_name" s_l_is_name t.f_l_is_name t.d_l_is_name ["_law_word_here"]
  l_wish_from : Fn K mg "_law_wish_from" s_l_wish_from t.f_l_wish_from t.d_l_wish_from ["_law_words", "_law_at", "_law_deep"]
  l_due : Fn K mg "_law_due" s_l_due t.f_l_due t.d_l_due ["_law_door", "_law_text_here"]
  l_right : Fn K mg "_law_right" s_l_right t.f_l_right t.d_l_right ["_law_door", "_law_text_here"]
  law : Fn K mg "law" s_law t.f_law t.d_law ["_law_script"]
  b_ValueError : mg "ValueError" = none
  b_abs : mg "abs" = none
  b_all : mg "all" = none
  b_bool : mg "bool" = none
  b_int : mg "int" = none
  b_isinstance : mg "isinstance" = none
  b_len : mg "len" = none
  b_list : mg "list" = none
  b_max : mg "max" = none
  b_range : mg "range" = none
  b_str : mg "str" = none
  b_tuple : mg "tuple" = none
  k_MOST_LETTERS : ∃ tk, mg "MOST_LETTERS" = some (.int 8 tk)
  k_LETTERS : ∃ tk, mg "LETTERS" = some (.str "abcdefghijklmnopqrstuvwxyz" tk)
  k_DEEPEST : ∃ tk, mg "DEEPEST" = some (.int 6 tk)
  k_FIGURES : ∃ tk, mg "FIGURES" = some (.str "0123456789" tk)
  k_MOST_FIGURES : ∃ tk, mg "MOST_FIGURES" = some (.int 60 tk)
  m_SHAPES : mg "SHAPES" = some (.ref t.c_SHAPES)
  m_NoText : mg "NoText" = some (.ref t.c_NoText)
  m_PlyError : mg "PlyError" = some (.ref t.c_PlyError)
  m_BadWish : mg "BadWish" = some (.ref t.c_BadWish)
  m_NoNumber : mg "NoNumber" = some (.ref t.c_NoNumber)
  m_NoPoint : mg "NoPoint" = some (.ref t.c_NoPoint)
  shapes : ShOk w K t.c_SHAPES
  e_NoText : exK K t.c_NoText = true
  x_NoText : exC K t.c_NoText = true
  m1 : PySem.W.exmOne K (.ref t.c_NoText) (.ref t.c_PlyError) = some true
  i0 : PySem.W.kitAny K (.ref t.c_NoText) [.ref t.c_BadWish, .ref t.c_NoNumber, .ref t.c_NoPoint] = some false
  i1 : PySem.W.kitOne K (.ref t.c_NoText) (.ref t.c_NoText) = some true
  i2 : PySem.W.kitOne K (.ref t.c_NoText) (.type "ValueError") = some true
section
variable {P : Program} {w : World} {K : PySem.W.Frag} {mg : Str → Option Value} {base : Heap} {t : Adr}
def sp_is_name : Sp := fun vs H Q _ => ∃ s, vs = [.str s] ∧ TxOk s ∧ ∀ H', Same H H' → Q (.bl (nameOk s)) H'
theorem sc_is_name : FnScope ["thing"] ["thing"] (defScope s_is_name) := ⟨rfl, rfl, rfl, by decide +kernel, rfl, by decide +kernel, by decide +kernel⟩
theorem ok_is_name (T : Txt K mg t w) : FnOk P w K mg base CX0 1 t.f_is_name t.d_is_name ["thing"] sp_is_name := by
  refine T.is_name.F.ok (k := 0) sc_is_name (fun vs H Q E h => ?_) (fun cdv A outer s H vs Q E hr h => ?_)
  · obtain ⟨s, rfl, _⟩ := h
    rfl
  · obtain ⟨s, rfl, ⟨ha, hl⟩, k⟩ := h
    refine ⟨_, (@pss_cons _ _ _ _ _ (@ps_if _ _ _ _ _ _ _ _ (PW.pt (@pw_or _ _ _ _ _ _ _ (@pt_not _ _ _ _ (@pt_val _ _ _ (@pe_callB _ _ _ _ _ _ _ _ _ call_isinst (by rfl) T.b_isinstance PyProof.Rows.boot_isinstance (@pa_cons _ _ _ _ _ (pv 0) (@pa_cons _ _ _ _ _ (@pe_ty _ _ _ _ T.b_str PyProof.Rows.boot_str (by rfl) (by decide) (by decide)) (@pa_nil _) star_name) star_name) (by decide) (by decide) (by rfl) (by rfl)) (by intro _; rfl))) (@pw_or _ _ _ _ _ _ _ (@pt_cmpR _ _ _ _ _ _ _ _ op_lt (@pe_callB _ _ _ _ _ _ _ _ _ call_len_str (by rfl) T.b_len PySem.boot_len (@pa_cons _ _ _ _ _ (pv 0) (@pa_nil _) star_name) (by decide) (by decide) (by rfl) (by rfl)) (@pe_int _ _ _ _) (nomark _)) (@pw_or1 _ _ _ _ (@pt_cmpR _ _ _ _ _ _ _ _ op_gt (@pe_callB _ _ _ _ _ _ _ _ _ call_len_str (by rfl) T.b_len PySem.boot_len (@pa_cons _ _ _ _ _ (pv 0) (@pa_nil _) star_name) (by decide) (by decide) (by rfl) (by rfl)) (@pe_konI _ _ _ _ T.k_MOST_LETTERS (by rfl) (by decide)) (nomark _)))))) (@pss_one _ _ _ (@ps_ret _ _ _ _ (@pe_bl _ _ _ _))) (@pss_nil _)) (@pss_one _ _ _ (@ps_ret _ _ _ _ (@pe_callB _ _ _ _ _ _ _ _ _ (call_all rfl) (by rfl) T.b_all PyProof.Rows.boot_all (@pa_cons _ _ _ _ _ (@pe_lcomp _ _ _ _ _ [] _ ["letter"] _ (fun _ => [none]) _ _ rfl (@pi_str _ _ _ _ (pv 0)) (fun _ _ _ _ => pg_name (i := 0) (List.nodup_cons.mpr ⟨fun h => (nomatch h), List.nodup_nil⟩) rfl (Or.inl rfl) (.inr rfl)) (fun _ _ _ _ => (@pe_cmpR _ _ _ _ _ _ _ _ op_in_str (pv 0) (@pe_konS _ _ _ _ T.k_LETTERS (by rfl) (by decide)) rfl)) (closureFor_none (by decide +kernel)) rfl (by decide +kernel) (by decide +kernel) (fun _ _ h => by cases h) (noCells (by rfl)) (fun _ _ => rfl) (fun _ i _ _ _ h => by cases i with | zero => cases h | succ i => simp at h) (by intro _; rfl)) (@pa_nil _) star_lc) (by decide) (by decide) (by rfl) (by rfl))))), ?_⟩
    have big : 1000000 ≤ sizeLine := by decide
    have LE : ∀ {σ : L2.St} {H' : Hp}, σ[0]? = some (some (.str s)) → Pu (tCB (fun xs H Q => ∃ z, xs = [.str z] ∧ z.length ≤ sizeLine ∧ Q (.int z.length) H) (tCons (tVar 0) tNil)) σ H' (.int (s.length : Nat)) := fun h => pu_lenS (pa_c (pu_v h) pa_n) (by omega)
    refine st_ifN (pt_or (b := false) (pt_n (b := true) (pt_b (pu_isi (pa_c (pu_v rfl) (pa_c pu_c pa_n)) (.str s) kit_same))) (fun _ => pt_or (pt_t (pu_lt (LE rfl) pu_c)) fun _ => pt_t (pu_gt (LE rfl) pu_c))) (fun e => ?_) (fun e => ?_)
    · have e1 : nameOk s = false := by
        simp only [Bool.false_or, Bool.or_eq_true, decide_eq_true_iff] at e
        unfold nameOk
        rcases e with e | e
        · rw [decide_eq_false (by omega)]; rfl
        · rw [decide_eq_false (p := s.length ≤ 8) (by omega)]
          simp
      rw [e1] at k
      exact st_ret pu_c (k _ Same.rfl')
    · simp only [Bool.false_or, Bool.or_eq_false_iff, decide_eq_false_iff_not] at e
      have e1 : nameOk s = (s.cps.toList.map fun c => decide (c ∈ (Str.ofString "abcdefghijklmnopqrstuvwxyz").cps.toList)).all id := by
        unfold nameOk
        rw [decide_eq_true (p := 1 ≤ s.length) (by omega), decide_eq_true (p := s.length ≤ 8) (by omega), List.all_map]
        rfl
      rw [e1] at k
      refine st_retG (gv_all (s.cps.toList.map fun c => decide (c ∈ (Str.ofString "abcdefghijklmnopqrstuvwxyz").cps.toList)) (gv_compS (fr := fun _ => [none]) (k := 0) (fun c => .bl (decide (c ∈ (Str.ofString "abcdefghijklmnopqrstuvwxyz").cps.toList))) (pu_v rfl) ha (by omega) (fun _ => KeepS.none1) fun c hc H' s => pu_inS (pu_v rfl) pu_c) ?_) ?_
      · rintro v H' ⟨D, hD, rfl, rfl⟩
        exact ⟨D, rfl, SqL.of (by rw [upd_same, List.map_map]; rfl)⟩
      · rintro v H' ⟨⟨p, D, hD, e1, rfl⟩, rfl⟩
        exact k _ (Same.upd hD)
def sp_is_whole : Sp := fun vs H Q _ => ∃ n : Int, vs = [.int n] ∧ Q (.bl true) H
theorem sc_is_whole : FnScope ["thing"] ["thing"] (defScope s_is_whole) := ⟨rfl, rfl, rfl, by decide +kernel, rfl, by decide +kernel, by decide +kernel⟩
theorem ok_is_whole (T : Txt K mg t w) : FnOk P w K mg base CX0 1 t.f_is_whole t.d_is_whole ["thing"] sp_is_whole := by
  refine T.is_whole.F.ok (k := 0) sc_is_whole (fun vs H Q E h => ?_) (fun cdv A outer s H vs Q E hr h => ?_)
  · obtain ⟨n, rfl, _⟩ := h
    rfl
  · obtain ⟨n, rfl, k⟩ := h
    refine ⟨_, (@pss_one _ _ _ (@ps_ret _ _ _ _ (@pe_and _ _ _ _ _ _ _ (@pe_callB _ _ _ _ _ _ _ _ _ call_isinst (by rfl) T.b_isinstance PyProof.Rows.boot_isinstance (@pa_cons _ _ _ _ _ (pv 0) (@pa_cons _ _ _ _ _ (@pe_ty _ _ _ _ T.b_int PyProof.Rows.boot_int (by rfl) (by decide) (by decide)) (@pa_nil _) star_name) star_name) (by decide) (by decide) (by rfl) (by rfl)) (@pe_one _ _ _ _ _ (@pe_not _ _ _ _ (@pe_callB _ _ _ _ _ _ _ _ _ call_isinst (by rfl) T.b_isinstance PyProof.Rows.boot_isinstance (@pa_cons _ _ _ _ _ (pv 0) (@pa_cons _ _ _ _ _ (@pe_ty _ _ _ _ T.b_bool PyProof.Rows.boot_bool (by rfl) (by decide) (by decide)) (@pa_nil _) star_name) star_name) (by decide) (by decide) (by rfl) (by rfl))))))), ?_⟩
    exact st_ret (pu_and (pu_isi (pa_c (pu_v rfl) (pa_c pu_c pa_n)) (.int n) kit_same) fun _ => pu_not (pu_isi (pa_c (pu_v rfl) (pa_c pu_c pa_n)) (.int n) kit_int_bool)) k
def sp_divisor_of : Sp := fun vs H Q _ => ∃ a b : Int, vs = [.int a, .int b] ∧ Q (.int (Int.gcd a b)) H
theorem sc_divisor_of : FnScope ["one", "other", "rest"] ["one", "other"] (defScope s_divisor_of) := ⟨rfl, rfl, rfl, by decide +kernel, rfl, by decide +kernel, by decide +kernel⟩
theorem ok_divisor_of (T : Txt K mg t w) : FnOk P w K mg base CX0 1 t.f_divisor_of t.d_divisor_of ["one", "other"] sp_divisor_of := by
  refine T.divisor_of.F.ok (k := 0) sc_divisor_of (fun vs H Q E h => ?_) (fun cdv A outer s H vs Q E hr h => ?_)
  · obtain ⟨a, b, rfl, _⟩ := h
    rfl
  · obtain ⟨a, b, rfl, k⟩ := h
    refine ⟨_, (@pss_cons _ _ _ _ _ (@ps_set _ _ 0 _ _ _ _ sc_divisor_of.nd rfl (Or.inl rfl) (@pe_callB _ _ _ _ _ _ _ _ _ call_abs (by rfl) T.b_abs PyProof.Rows.boot_abs (@pa_cons _ _ _ _ _ (pv 0) (@pa_nil _) star_name) (by decide) (by decide) (by rfl) (by rfl)) (by rfl) (by first | exact .inl rfl | exact .inr rfl | assumption)) (@pss_cons _ _ _ _ _ (@ps_set _ _ 1 _ _ _ _ sc_divisor_of.nd rfl (Or.inl rfl) (@pe_callB _ _ _ _ _ _ _ _ _ call_abs (by rfl) T.b_abs PyProof.Rows.boot_abs (@pa_cons _ _ _ _ _ (pv 1) (@pa_nil _) star_name) (by decide) (by decide) (by rfl) (by rfl)) (by rfl) (by first | exact .inl rfl | exact .inr rfl | assumption)) (@pss_cons _ _ _ _ _ (@ps_while _ _ _ _ _ _ PassesOwn.never (@pt_cmpR _ _ _ _ _ _ _ _ op_ne (pv 1) (@pe_int _ _ _ _) (nomark _)) (@pss_cons _ _ _ _ _ (@ps_set _ _ 2 _ _ _ _ sc_divisor_of.nd rfl (Or.inl rfl) (@pe_op _ _ _ _ _ _ _ _ op_modN (pv 0) (pv 1)) (by rfl) (by first | exact .inl rfl | exact .inr rfl | assumption)) (@pss_cons _ _ _ _ _ (@ps_set _ _ 0 _ _ _ _ sc_divisor_of.nd rfl (Or.inl rfl) (pv 1) (by rfl) (by first | exact .inl rfl | exact .inr rfl | assumption)) (@pss_one _ _ _ (@ps_set _ _ 1 _ _ _ _ sc_divisor_of.nd rfl (Or.inl rfl) (pv 2) (by rfl) (by first | exact .inl rfl | exact .inr rfl | assumption)))))) (@pss_one _ _ _ (@ps_ret _ _ _ _ (pv 0)))))), ?_⟩
    refine st_set (pu_abs (pa_c (pu_v rfl) pa_n)) ?_
    refine st_set (pu_abs (pa_c (pu_v rfl) pa_n)) ?_
    refine st_while (fun σ H' => H' = H ∧ ∃ (x y : Int) (r : Option V), σ = [some (.int x), some (.int y), r] ∧ 0 ≤ x ∧ 0 ≤ y ∧ Int.gcd x y = Int.gcd a b) (fun σ _ => match σ with | [_, some (.int y), _] => y.toNat | _ => 0)
      ⟨rfl, a.natAbs, b.natAbs, none, rfl, by omega, by omega, rfl⟩ ?_
    rintro σ H' ⟨rfl, x, y, r, rfl, hx, hy, hg⟩
    refine ⟨_, pt_t (pu_neI (pu_v rfl) pu_c), fun e => ?_, fun e => ?_⟩
    · have e' : y ≠ 0 := by simpa using e
      have hm := fmod_lt (x := x) (show 0 < y by omega)
      refine st_set (pu_mod (pu_v rfl) (pu_v rfl) e') ?_
      refine st_set (pu_v rfl) ?_
      refine st_set1 (pu_v rfl) ?_
      exact ⟨⟨rfl, y, x.fmod y, _, rfl, hy, hm.1, by rw [gcd_step hx hy]; exact hg⟩, by show (x.fmod y).toNat < y.toNat; omega⟩
    · have e' : y = 0 := by simpa using e
      subst e'
      refine st_ret (pu_v rfl) ?_
      rw [← hg, gcd_zero x hx] at k
      exact k
def isFr : List Int → Bool
  | [a, b] => decide (1 ≤ b) && decide (Int.gcd a b = 1)
  | _ => false
def sp_is_fraction : Sp := fun vs H Q _ => ∃ v ns, vs = [v] ∧ TupT H v ns ∧ ∀ H', Same H H' → Q (.bl (isFr ns)) H'
theorem sc_is_fraction : FnScope ["thing"] ["thing"] (defScope s_is_fraction) := ⟨rfl, rfl, rfl, by decide +kernel, rfl, by decide +kernel, by decide +kernel⟩
theorem ok_is_fraction (T : Txt K mg t w) : FnOk P w K mg base CX0 2 t.f_is_fraction t.d_is_fraction ["thing"] sp_is_fraction := by
  refine T.is_fraction.F.ok (k := 1) sc_is_fraction (fun vs H Q E h => ?_) (fun cdv A outer s H vs Q E hr h => ?_)
  · obtain ⟨v, ns, rfl, _⟩ := h
    rfl
  · obtain ⟨v, ns, rfl, tv, k⟩ := h
    obtain ⟨l, rfl, hl⟩ := id tv
    refine ⟨_, (@pss_cons _ _ _ _ _ (@ps_if _ _ _ _ _ _ _ _ (PW.pt (@pw_or _ _ _ _ _ _ _ (@pt_not _ _ _ _ (@pt_val _ _ _ (@pe_callB _ _ _ _ _ _ _ _ _ call_isinst (by rfl) T.b_isinstance PyProof.Rows.boot_isinstance (@pa_cons _ _ _ _ _ (pv 0) (@pa_cons _ _ _ _ _ (@pe_ty _ _ _ _ T.b_tuple PyProof.Rows.boot_tuple (by rfl) (by decide) (by decide)) (@pa_nil _) star_name) star_name) (by decide) (by decide) (by rfl) (by rfl)) (by intro _; rfl))) (@pw_or1 _ _ _ _ (@pt_cmpR _ _ _ _ _ _ _ _ op_ne (@pe_callB _ _ _ _ _ _ _ _ _ call_len_seq (by rfl) T.b_len PySem.boot_len (@pa_cons _ _ _ _ _ (pv 0) (@pa_nil _) star_name) (by decide) (by decide) (by rfl) (by rfl)) (@pe_int _ _ _ _) (nomark _))))) (@pss_one _ _ _ (@ps_ret _ _ _ _ (@pe_bl _ _ _ _))) (@pss_nil _)) (@pss_cons _ _ _ _ _ (@ps_if _ _ _ _ _ _ _ _ (@pt_not _ _ _ _ (@pt_val _ _ _ (@pe_callB _ _ _ _ _ _ _ _ _ (call_all rfl) (by rfl) T.b_all PyProof.Rows.boot_all (@pa_cons _ _ _ _ _ (@pe_lcomp _ _ _ _ _ [] _ ["part"] _ (fun _ => [none]) _ _ rfl (@pi_tup _ _ _ _ (pv 0)) (fun _ _ _ _ => pg_name (i := 0) (List.nodup_cons.mpr ⟨fun h => (nomatch h), List.nodup_nil⟩) rfl (Or.inl rfl) (.inr rfl)) (fun _ _ _ _ => (@pe_fn _ _ _ _ _ _ _ _ _ _ _ _ _ _ T.is_whole (ok_is_whole T) hr (by decide) (@pa_cons _ _ _ _ _ (pv 0) (@pa_nil _) star_name) (by rfl) (by decide) (by rfl) (by rfl))) (closureFor_none (by decide +kernel)) rfl (by decide +kernel) (by decide +kernel) (fun _ _ h => by cases h) (noCells (by rfl)) (fun _ _ => rfl) (fun _ i _ _ _ h => by cases i with | zero => cases h | succ i => simp at h) (by intro _; rfl)) (@pa_nil _) star_lc) (by decide) (by decide) (by rfl) (by rfl)) (by intro _; rfl))) (@pss_one _ _ _ (@ps_ret _ _ _ _ (@pe_bl _ _ _ _))) (@pss_nil _)) (@pss_one _ _ _ (@ps_ret _ _ _ _ (@pe_and _ _ _ _ _ _ _ (@pe_cmpR _ _ _ _ _ _ _ _ op_ge (@pe_ix _ _ _ _ _ _ _ ix_tup (pv 0) (@pe_int _ _ _ _) (fun _ _ => rfl)) (@pe_int _ _ _ _) (nomark _)) (@pe_one _ _ _ _ _ (@pe_cmpR _ _ _ _ _ _ _ _ op_eq (@pe_fn _ _ _ _ _ _ _ _ _ _ _ _ _ _ T.divisor_of (ok_divisor_of T) hr (by decide) (@pa_cons _ _ _ _ _ (@pe_ix _ _ _ _ _ _ _ ix_tup (pv 0) (@pe_int _ _ _ _) (fun _ _ => rfl)) (@pa_cons _ _ _ _ _ (@pe_ix _ _ _ _ _ _ _ ix_tup (pv 0) (@pe_int _ _ _ _) (fun _ _ => rfl)) (@pa_nil _) star_sub) star_sub) (by rfl) (by decide) (by rfl) (by rfl)) (@pe_int _ _ _ _) (nomark _)))))))), ?_⟩
    refine st_ifN (pt_or (b := false) (c := !decide (ns.length = 2)) (pt_n (b := true) (pt_b (pu_isi (pa_c (pu_v rfl) (pa_c pu_c pa_n)) (.tup hl) kit_same))) fun _ => pt_t (pu_cast (pu_neI (pu_lenT (pa_c (pu_v rfl) pa_n) (SqT.of hl)) pu_c) (by rw [List.length_map]; congr 2; rw [decide_eq_decide]; omega))) (fun e => ?_) fun e => ?_
    · have e1 : isFr ns = false := by
        have : ns.length ≠ 2 := by simpa using e
        match ns, this with
        | [], _ => rfl
        | [_], _ => rfl
        | [_, _], h => exact absurd rfl h
        | _ :: _ :: _ :: _, _ => rfl
      rw [e1] at k
      exact st_ret pu_c (k _ Same.rfl')
    have e2 : ns.length = 2 := by simpa using e
    match ns, e2 with
    | [a, b], _ =>
    refine st_notTru (gv_allTrue (pu_v rfl) tv (by simp) (fun n H' Q q => ⟨n, rfl, q⟩)) ?_
    intro H1 s1
    have hl1 := s1 _ _ hl
    exact st_ret (v := .bl (isFr [a, b])) (pu_cast (pu_and (pu_ge (pu_ixT (pu_v rfl) pu_c (SqT.of (hl1)) rfl) pu_c) fun _ => pu_eqI (pu_call (pa_c (pu_ixT (pu_v rfl) pu_c (SqT.of (hl1)) rfl) (pa_c (pu_ixT (pu_v rfl) pu_c (SqT.of (hl1)) rfl) pa_n)) (fun Q q => ⟨a, b, rfl, q⟩)) pu_c) (by unfold isFr; congr 2; rw [decide_eq_decide]; omega)) (k _ s1)
def sp_point_by : Sp := fun vs H Q _ => ∃ a b c : Int, vs = [.int a, .int b, .int c] ∧ c ≠ 0 ∧ Bd 9000 c ∧ ∀ v H', Same H H' → AtP H' v (pbF a b c) → Q v H'
theorem sc_point_by : FnScope ["a", "b", "c", "shared"] ["a", "b", "c"] (defScope s_point_by) := ⟨rfl, rfl, rfl, by decide +kernel, rfl, by decide +kernel, by decide +kernel⟩
theorem ok_point_by (T : Txt K mg t w) : FnOk P w K mg base CX0 2 t.f_point_by t.d_point_by ["a", "b", "c"] sp_point_by := by
  refine T.point_by.F.ok (k := 1) sc_point_by (fun vs H Q E h => ?_) (fun cdv A outer s H vs Q E hr h => ?_)
  · obtain ⟨a, b, c, rfl, _⟩ := h
    rfl
  · obtain ⟨a, b, c, rfl, hc, hB, k⟩ := h
    refine ⟨_, (@pss_cons _ _ _ _ _ (@ps_if _ _ _ _ _ _ _ _ (@pt_cmpR _ _ _ _ _ _ _ _ op_eq (pv 2) (@pe_int _ _ _ _) (nomark _)) (@pss_one _ _ _ (@ps_never _ _)) (@pss_nil _)) (@pss_cons _ _ _ _ _ (@ps_set _ _ 3 _ _ _ _ sc_point_by.nd rfl (Or.inl rfl) (@pe_fn _ _ _ _ _ _ _ _ _ _ _ _ _ _ T.divisor_of (ok_divisor_of T) hr (by decide) (@pa_cons _ _ _ _ _ (@pe_fn _ _ _ _ _ _ _ _ _ _ _ _ _ _ T.divisor_of (ok_divisor_of T) hr (by decide) (@pa_cons _ _ _ _ _ (pv 0) (@pa_cons _ _ _ _ _ (pv 1) (@pa_nil _) star_name) star_name) (by rfl) (by decide) (by rfl) (by rfl)) (@pa_cons _ _ _ _ _ (pv 2) (@pa_nil _) star_name) star_call) (by rfl) (by decide) (by rfl) (by rfl)) (by rfl) (by first | exact .inl rfl | exact .inr rfl | assumption)) (@pss_cons _ _ _ _ _ (@ps_if _ _ _ _ _ _ _ _ (@pt_cmpR _ _ _ _ _ _ _ _ op_lt (pv 2) (@pe_int _ _ _ _) (nomark _)) (@pss_one _ _ _ (@ps_set _ _ 3 _ _ _ _ sc_point_by.nd rfl (Or.inl rfl) (@pe_un _ _ _ _ _ _ un_neg (pv 3)) (by rfl) (by first | exact .inl rfl | exact .inr rfl | assumption))) (@pss_nil _)) (@pss_one _ _ _ (@ps_ret _ _ _ _ (@pe_tup _ _ _ _ _ (@pa_cons _ _ _ _ _ (@pe_op _ _ _ _ _ _ _ _ op_fdivB (pv 0) (pv 3)) (@pa_cons _ _ _ _ _ (@pe_op _ _ _ _ _ _ _ _ op_fdivB (pv 1) (pv 3)) (@pa_cons _ _ _ _ _ (@pe_op _ _ _ _ _ _ _ _ op_fdivB (pv 2) (pv 3)) (@pa_nil _) star_bin) star_bin) star_bin))))))), ?_⟩
    have hg := gS3_ne (a := a) (b := b) hc
    have hgb : Bd 9000 (gS3 a b c) := by
      have := Bd.gcd_right (a := ((Int.gcd a b : Nat) : Int)) hc hB
      unfold gS3; split
      · exact this.neg
      · exact this
    refine st_ifN (pt_t (pu_eqI (pu_v rfl) pu_c)) (fun e => absurd (of_decide_eq_true e) hc) fun _ => ?_
    refine st_set (pu_call (pa_c (pu_call (pa_c (pu_v rfl) (pa_c (pu_v rfl) pa_n)) (fun Q q => ⟨a, b, rfl, q⟩)) (pa_c (pu_v rfl) pa_n)) (fun Q q => ⟨_, c, rfl, q⟩)) ?_
    refine st_ifSet (R := fun v H' => H = H' ∧ v = .int (gS3 a b c)) (v0 := .int (Int.gcd ((Int.gcd a b : Nat) : Int) c)) (pt_t (pu_lt (pu_v rfl) pu_c)) (fun e => (pu_neg (pu_v rfl)).gv' ⟨rfl, ?_⟩) rfl (fun e => ⟨rfl, ?_⟩) ?_
    · rw [gS3, if_pos (of_decide_eq_true e)]
    · rw [gS3, if_neg (of_decide_eq_false e)]
    rintro v H' ⟨rfl, rfl⟩
    refine st_retG (gv_tup (pa_c (pu_fdiv (pu_v rfl) (pu_v rfl) ⟨hg, hgb⟩) (pa_c (pu_fdiv (pu_v rfl) (pu_v rfl) ⟨hg, hgb⟩) (pa_c (pu_fdiv (pu_v rfl) (pu_v rfl) ⟨hg, hgb⟩) pa_n))) (by show 3 ≤ sizeLine; decide)) ?_
    rintro _ _ ⟨p, hp, rfl, rfl⟩
    exact k _ _ (Same.upd hp) (TupT.of upd_same)
def sp_point_of : Sp := fun vs H Q _ => ∃ v w x y, vs = [v, w] ∧ TupT H v [x.1, x.2] ∧ TupT H w [y.1, y.2] ∧ FrL x ∧ FrL y ∧ ∀ r H', Same H H' → AtP H' r (ptF x y) → Q r H'
theorem sc_point_of : FnScope ["x", "y"] ["x", "y"] (defScope s_point_of) := ⟨rfl, rfl, rfl, by decide +kernel, rfl, by decide +kernel, by decide +kernel⟩
theorem ok_point_of (T : Txt K mg t w) : FnOk P w K mg base CX0 3 t.f_point_of t.d_point_of ["x", "y"] sp_point_of := by
  refine T.point_of.F.ok (k := 2) sc_point_of (fun vs H Q E h => ?_) (fun cdv A outer s H vs Q E hr h => ?_)
  · obtain ⟨v, w, x, y, rfl, _⟩ := h
    rfl
  · obtain ⟨v, w, x, y, rfl, ⟨a, rfl, ha⟩, ⟨b, rfl, hb⟩, fx, fy, k⟩ := h
    refine ⟨_, (@pss_one _ _ _ (@ps_ret _ _ _ _ (@pe_fn _ _ _ _ _ _ _ _ _ _ _ _ _ _ T.point_by (ok_point_by T) hr (by decide) (@pa_cons _ _ _ _ _ (@pe_op _ _ _ _ _ _ _ _ op_mulB (@pe_ix _ _ _ _ _ _ _ ix_tup (pv 0) (@pe_int _ _ _ _) (fun _ _ => rfl)) (@pe_ix _ _ _ _ _ _ _ ix_tup (pv 1) (@pe_int _ _ _ _) (fun _ _ => rfl))) (@pa_cons _ _ _ _ _ (@pe_op _ _ _ _ _ _ _ _ op_mulB (@pe_ix _ _ _ _ _ _ _ ix_tup (pv 1) (@pe_int _ _ _ _) (fun _ _ => rfl)) (@pe_ix _ _ _ _ _ _ _ ix_tup (pv 0) (@pe_int _ _ _ _) (fun _ _ => rfl))) (@pa_cons _ _ _ _ _ (@pe_op _ _ _ _ _ _ _ _ op_mulB (@pe_ix _ _ _ _ _ _ _ ix_tup (pv 0) (@pe_int _ _ _ _) (fun _ _ => rfl)) (@pe_ix _ _ _ _ _ _ _ ix_tup (pv 1) (@pe_int _ _ _ _) (fun _ _ => rfl))) (@pa_nil _) star_bin) star_bin) star_bin) (by rfl) (by decide) (by rfl) (by rfl)))), ?_⟩
    refine st_retG (gv_call (R := fun r H' => Same H H' ∧ AtP H' r (ptF x y)) (pa_c (pu_mul (pu_ixT (pu_v rfl) pu_c (SqT.of (ha)) rfl) (pu_ixT (pu_v rfl) pu_c (SqT.of (hb)) rfl) (mulOk_of fx.b1 fy.b2 (by decide))) (pa_c (pu_mul (pu_ixT (pu_v rfl) pu_c (SqT.of (hb)) rfl) (pu_ixT (pu_v rfl) pu_c (SqT.of (ha)) rfl) (mulOk_of fy.b1 fx.b2 (by decide))) (pa_c (pu_mul (pu_ixT (pu_v rfl) pu_c (SqT.of (ha)) rfl) (pu_ixT (pu_v rfl) pu_c (SqT.of (hb)) rfl) (mulOk_of fx.b2 fy.b2 (by decide))) pa_n))) fun Q f => ⟨_, _, _, rfl, Int.ne_of_gt (ptF_z fx fy), (fx.b2.mul fy.b2).mono (by decide), fun v H' s t => f _ _ ⟨s, t⟩⟩) fun r H' z => k r H' z.1 z.2
def sp_shape_of (K : PySem.W.Frag) : Sp := fun vs H Q _ => ∃ s, vs = [.str s] ∧ (shp s = none → Q .non H) ∧ ∀ ks a, shp s = some ks → (∀ H', SqT K H' a (ks.map fun k => V.str (kdS k))) → Q (.ref a) H
theorem sc_shape_of : FnScope ["word"] ["word"] (defScope s_shape_of) := ⟨rfl, rfl, rfl, by decide +kernel, rfl, by decide +kernel, by decide +kernel⟩
theorem ok_shape_of (T : Txt K mg t w) : FnOk P w K mg base CX0 1 t.f_shape_of t.d_shape_of ["word"] (sp_shape_of K) := by
  refine T.shape_of.F.ok (k := 0) sc_shape_of (fun vs H Q E h => ?_) (fun cdv A outer s H vs Q E hr h => ?_)
  · obtain ⟨s, rfl, _⟩ := h
    rfl
  · obtain ⟨x, rfl, k1, k2⟩ := h
    obtain ⟨l, hT, pr⟩ := T.shapes
    refine ⟨_, (@pss_one _ _ _ (@ps_ret _ _ _ _ (@pe_kget _ _ _ _ _ _ _ _ _ hT T.m_SHAPES (@pa_cons _ _ _ _ _ (pv 0) (@pa_nil _) star_name) (by rfl) (by decide) (by rfl) (by rfl) (by rfl) (by rfl) (by rfl)))), ?_⟩
    refine st_ret (v := tabV l x) (fun Q q => (pa_c (pu_v rfl) pa_n : PuA (tCons (tVar 0) tNil) _ _ [.str x]) _ ⟨x, rfl, q⟩) ?_
    rcases tab_find (s := x) pr with ⟨e1, e2⟩ | ⟨ks, a, e1, e2, hq⟩
    · rw [e2]
      exact k1 e1
    · rw [e2]
      exact k2 ks a e1 hq
def spx_check_text (t : Adr) : Sp := fun vs H Q E => (∃ x, vs = [.str x] ∧ Q .non H) ∨ ∃ hd v d, vs = [v] ∧ DAt hd H v d ∧ d.isStr = false ∧ E (.ref t.c_NoText) none H
theorem sc_check_text : FnScope ["text"] ["text"] (defScope s_check_text) := ⟨rfl, rfl, rfl, by decide +kernel, rfl, by decide +kernel, by decide +kernel⟩
theorem okx_check_text (T : Txt K mg t w) : FnOk P w K mg base (CXE P w) 1 t.f_check_text t.d_check_text ["text"] (spx_check_text t) := by
  refine T.check_text.F.okE (k := 0) sc_check_text (fun vs H Q E h => ?_) (fun cdv A outer s H vs Q E hr h => ?_)
  · rcases h with ⟨x, rfl, _⟩ | ⟨hd, v, d, rfl, _⟩
    · rfl
    · rfl
  · refine ⟨_, (@pss_one _ _ _ (@ps_if _ _ _ _ _ _ _ _ (@pt_not _ _ _ _ (@pt_val _ _ _ (@pe_callB _ _ _ _ _ _ _ _ _ call_isinst (by rfl) T.b_isinstance PyProof.Rows.boot_isinstance (@pa_cons _ _ _ _ _ (pv 0) (@pa_cons _ _ _ _ _ (@pe_ty _ _ _ _ T.b_str PyProof.Rows.boot_str (by rfl) (by decide) (by decide)) (@pa_nil _) star_name) star_name) (by decide) (by decide) (by rfl) (by rfl)) (by intro _; rfl))) (@pss_one _ _ _ (@ps_raise0 _ _ _ _ _ _ _ _ _ _ _ _ _ _ _ _ _ _ _ _ T.e_NoText T.m_NoText rfl (by decide))) (@pss_nil _))), ?_⟩
    rcases h with ⟨x, rfl, k⟩ | ⟨hd, v, d, rfl, hv, nd, k⟩
    · exact st_ifN1 (pt_n (b := true) (pt_b (pu_isi (pa_c (pu_v rfl) (pa_c pu_c pa_n)) (.str x) kit_same))) (fun e => by simp at e) fun _ => k
    · exact st_ifN1 (pt_n (b := false) (pt_b (pu_isi (pa_c (pu_v rfl) (pa_c pu_c pa_n)) hv.ty (by rw [kd_str, nd])))) (fun _ => k) fun e => by simp at e
def spx_read_whole (t : Adr) : Sp := fun vs H Q E => ∃ s, vs = [.str s] ∧ TxOk s ∧ (∀ n, rW s = some n → ∀ H', Same H H' → Q (.int n) H') ∧ (rW s = none → ∀ H', Same H H' → E (.ref t.c_NoText) none H')
theorem rW_no {s : Str} (h : wOk s = false) : rW s = none := by unfold rW; rw [h]; rfl
theorem rW_yes {s : Str} (h : wOk s = true) : rW s = some (wVal s) := by unfold rW; rw [if_pos h]
theorem pu_cast2 {σ : L2.St} {H : Hp} {t : TT} {b c : Bool} (h : PuT t σ H b) (e : b = c) : PuT t σ H c := e ▸ h
theorem gt_nb {te : TE} {σ : L2.St} {H : Hp} {b : Bool} {R : Hp → Prop} (h : Gv te σ H (fun v H' => v = .bl b ∧ R H')) : GvT (tNot (tB te)) σ H (fun x H' => x = (!b) ∧ R H') := fun Q q => h _ fun v H' r => ⟨b, r.1, q _ _ ⟨rfl, r.2⟩⟩
def figS (s : Str) : Str := ⟨(figL s).toArray⟩
theorem figS_len (s : Str) : (figS s).length = (figL s).length := by rw [← L2.len_list]; rfl
theorem sc_read_whole : FnScope ["text", "figures"] ["text"] (defScope s_read_whole) := ⟨rfl, rfl, rfl, by decide +kernel, rfl, by decide +kernel, by decide +kernel⟩
theorem okx_read_whole (T : Txt K mg t w) : FnOk P w K mg base (CXE P w) 2 t.f_read_whole t.d_read_whole ["text"] (spx_read_whole t) := by
  refine T.read_whole.F.okE (k := 1) sc_read_whole (fun vs H Q E h => ?_) (fun cdv A outer s H vs Q E hr h => ?_)
  · obtain ⟨s, rfl, _⟩ := h
    rfl
  · obtain ⟨s, rfl, ⟨ha, hl⟩, k, kx⟩ := h
    refine ⟨_, (@pss_cons _ _ _ _ _ (@ps_expr _ _ _ _ (@pe_fnX _ _ _ _ _ _ _ _ _ _ _ _ _ _ _ _ _ T.check_text (okx_check_text T) hr (by decide) passX (@pa_cons _ _ _ _ _ (pv 0) (@pa_nil _) star_name) (by rfl) (by decide) (by rfl) (by rfl)) (by rfl)) (@pss_cons _ _ _ _ _ (@ps_set _ _ 1 _ _ _ _ sc_read_whole.nd rfl (Or.inl rfl) (@pe_ifExp _ _ _ _ _ _ _ _ (@pt_val _ _ _ (@pe_bm _ _ _ _ _ _ _ _ _ _ _ _ PySem.F.plainAttrs_str PySem.F.slot_str_startswith PySem.F.type_str_startswith mt_starts (pv 0) (@pa_cons _ _ _ _ _ (@pe_str _ _ _ _) (@pa_nil _) star_con) (by rfl) (by rfl) (by rfl) (by rfl) (by rfl)) (by intro _; rfl)) (@pe_slice _ _ _ _ _ _ _ _ _ _ sl_str1 (pv 0) (@po_some _ _ _ (@pe_int _ _ _ _)) (@po_none _)) (pv 0)) (by rfl) (by first | exact .inl rfl | exact .inr rfl | assumption)) (@pss_cons _ _ _ _ _ (@ps_if _ _ _ _ _ _ _ _ (PW.pt (@pw_or _ _ _ _ _ _ _ (@pt_cmpR _ _ _ _ _ _ _ _ op_lt (@pe_callB _ _ _ _ _ _ _ _ _ call_len_str (by rfl) T.b_len PySem.boot_len (@pa_cons _ _ _ _ _ (pv 1) (@pa_nil _) star_name) (by decide) (by decide) (by rfl) (by rfl)) (@pe_int _ _ _ _) (nomark _)) (@pw_or _ _ _ _ _ _ _ (@pt_cmpR _ _ _ _ _ _ _ _ op_gt (@pe_callB _ _ _ _ _ _ _ _ _ call_len_str (by rfl) T.b_len PySem.boot_len (@pa_cons _ _ _ _ _ (pv 1) (@pa_nil _) star_name) (by decide) (by decide) (by rfl) (by rfl)) (@pe_konI _ _ _ _ T.k_MOST_FIGURES (by rfl) (by decide)) (nomark _)) (@pw_or1 _ _ _ _ (@pt_not _ _ _ _ (@pt_val _ _ _ (@pe_callB _ _ _ _ _ _ _ _ _ (call_all rfl) (by rfl) T.b_all PyProof.Rows.boot_all (@pa_cons _ _ _ _ _ (@pe_lcomp _ _ _ _ _ [] _ ["sign"] _ (fun _ => [none]) _ _ rfl (@pi_str _ _ _ _ (pv 1)) (fun _ _ _ _ => pg_name (i := 0) (List.nodup_cons.mpr ⟨fun h => (nomatch h), List.nodup_nil⟩) rfl (Or.inl rfl) (.inr rfl)) (fun _ _ _ _ => (@pe_cmpR _ _ _ _ _ _ _ _ op_in_str (pv 0) (@pe_konS _ _ _ _ T.k_FIGURES (by rfl) (by decide)) rfl)) (closureFor_none (by decide +kernel)) rfl (by decide +kernel) (by decide +kernel) (fun _ _ h => by cases h) (noCells (by rfl)) (fun _ _ => rfl) (fun _ i _ _ _ h => by cases i with | zero => cases h | succ i => simp at h) (by intro _; rfl)) (@pa_nil _) star_lc) (by decide) (by decide) (by rfl) (by rfl)) (by intro _; rfl))))))) (@pss_one _ _ _ (@ps_raise0 _ _ _ _ _ _ _ _ _ _ _ _ _ _ _ _ _ _ _ _ T.e_NoText T.m_NoText rfl (by decide))) (@pss_nil _)) (@pss_cons _ _ _ _ _ (@ps_if _ _ _ _ _ _ _ _ (PW.pt (@pw_and _ _ _ _ _ _ _ (@pt_val _ _ _ (@pe_bm _ _ _ _ _ _ _ _ _ _ _ _ PySem.F.plainAttrs_str PySem.F.slot_str_startswith PySem.F.type_str_startswith mt_starts (pv 1) (@pa_cons _ _ _ _ _ (@pe_str _ _ _ _) (@pa_nil _) star_con) (by rfl) (by rfl) (by rfl) (by rfl) (by rfl)) (by intro _; rfl)) (@pw_and1 _ _ _ _ (@pt_cmpR _ _ _ _ _ _ _ _ op_ne (pv 0) (@pe_str _ _ _ _) (nomark _))))) (@pss_one _ _ _ (@ps_raise0 _ _ _ _ _ _ _ _ _ _ _ _ _ _ _ _ _ _ _ _ T.e_NoText T.m_NoText rfl (by decide))) (@pss_nil _)) (@pss_one _ _ _ (@ps_ret _ _ _ _ (@pe_callTy _ _ _ _ _ _ _ _ _ call_intS (by rfl) T.b_int PyProof.Rows.boot_int (@pa_cons _ _ _ _ _ (pv 0) (@pa_nil _) star_name) (by decide) (by decide) (by rfl) (by rfl)))))))), ?_⟩
    have big : 1000000 ≤ sizeLine := by decide
    have fl := figL_len s
    have fs := figS_len s
    have no : wOk s = false → ∀ H', Same H H' → E (.ref t.c_NoText) none H' := fun z => kx (rW_no z)
    refine st_exprG (R := fun v H' => H = H') (gv_call (sp := spx_check_text t) (pa_c (pu_v rfl) pa_n) fun Q f => .inl ⟨_, rfl, f _ _ rfl⟩) ?_
    rintro _ _ rfl
    refine st_set (v := .str (figS s)) (pu_ifE (b := decide (s.cps.toList[0]? = some 45)) ?_ (fun e => ?_) fun e => ?_) ?_
    · have := pu_starts (K := K) (to := tVar 0) (tb := tC (.str (Str.ofString "-"))) (σ := [some (.str s), none]) (H := H) (pu_v rfl) pu_c
      rw [s_minus, starts_one] at this
      rw [← s_minus] at this
      exact pt_b this
    · have e' := of_decide_eq_true e
      have e1 : figS s = ⟨(s.cps.toList.drop 1).toArray⟩ := by
        unfold figS figL
        rw [if_pos e']
      rw [e1]
      refine pu_cut1 (tn := tNoPart) (pu_v rfl) ?_ (by omega)
      rw [← L2.len_list]
      cases h : s.cps.toList with
      | nil => rw [h] at e'; cases e'
      | cons c r => exact Nat.succ_le_succ (Nat.zero_le _)
    · have e' := of_decide_eq_false e
      have e1 : figS s = s := by
        unfold figS figL
        rw [if_neg e']
      rw [e1]
      exact pu_v rfl
    have LE : ∀ {σ : L2.St} {H' : Hp}, σ[1]? = some (some (.str (figS s))) → Pu (tCB (fun xs H Q => ∃ z, xs = [.str z] ∧ z.length ≤ sizeLine ∧ Q (.int z.length) H) (tCons (tVar 1) tNil)) σ H' (.int ((figS s).length : Nat)) := fun h => pu_lenS (pa_c (pu_v h) pa_n) (by omega)
    have nOk : ∀ {P : Prop}, P → (P → ¬ (wOk s = true)) → wOk s = false := fun p f => by
      cases h : wOk s with
      | false => rfl
      | true => exact absurd h (f p)
    by_cases h1 : (figS s).length < 1
    · refine st_ifN (b := true) (pt_or (b := true) (c := true) (pu_cast2 (pt_t (pu_lt (LE rfl) pu_c)) (by rw [decide_eq_true_iff]; omega)) (fun e => by cases e)) (fun _ => ?_) (fun e => by cases e)
      exact no (nOk h1 fun p z => by have := ((wOk_iff s).mp z).1; omega) _ Same.rfl'
    by_cases h2 : 60 < (figS s).length
    · refine st_ifN (b := true) (pt_or (b := false) (c := true) (pu_cast2 (pt_t (pu_lt (LE rfl) pu_c)) (by rw [decide_eq_false_iff_not]; omega)) fun _ => pt_or (b := true) (c := true) (pu_cast2 (pt_t (pu_gt (LE rfl) pu_c)) (by rw [decide_eq_true_iff]; omega)) (fun e => by cases e)) (fun _ => ?_) (fun e => by cases e)
      exact no (nOk h2 fun p z => by have := ((wOk_iff s).mp z).2.1; omega) _ Same.rfl'
    have fa : ∀ c ∈ (figS s).cps.toList, c < 128 := fun c hc => by
      have hc' : c ∈ figL s := hc
      unfold figL at hc'
      split at hc'
      · exact ha c (List.mem_of_mem_drop hc')
      · exact ha c hc'
    refine st_ifNG (R := fun b H' => b = (!((figL s).map fun c => decide (c ∈ (Str.ofString "0123456789").cps.toList)).all id) ∧ Same H H') (gt_or (R := fun b H' => b = false ∧ H = H') (PuT.gt (pt_t (pu_lt (LE rfl) pu_c)) ⟨by rw [decide_eq_false_iff_not]; omega, rfl⟩) (fun H' e => ?_) (fun _ e => by cases e.1)) (fun H1 e => ?_) ?_
    · obtain ⟨_, rfl⟩ := e
      refine gt_or (R := fun b H' => b = false ∧ H = H') (PuT.gt (pt_t (pu_gt (LE rfl) pu_c)) ⟨by rw [decide_eq_false_iff_not]; omega, rfl⟩) (fun H' e => ?_) (fun _ e => by cases e.1)
      obtain ⟨_, rfl⟩ := e
      refine gt_nb ((gv_all ((figL s).map fun c => decide (c ∈ (Str.ofString "0123456789").cps.toList)) (gv_compS (fr := fun _ => [none]) (k := 0) (fun c => .bl (decide (c ∈ (Str.ofString "0123456789").cps.toList))) (pu_v rfl) fa (by omega) (fun _ => KeepS.none1) fun c hc H' s => pu_inS (pu_v rfl) pu_c) ?_).imp ?_)
      · rintro v H' ⟨D, hD, rfl, rfl⟩
        exact ⟨D, rfl, SqL.of (by rw [upd_same, List.map_map]; rfl)⟩
      · rintro v H' ⟨⟨p, D, hD, e1, rfl⟩, rfl⟩
        exact ⟨rfl, Same.upd hD⟩
    · refine no (nOk e.1 fun p z => ?_) _ e.2
      have h3 := ((wOk_iff s).mp z).2.2.1
      have : ((figL s).map fun c => decide (c ∈ (Str.ofString "0123456789").cps.toList)).all id = true := by
        rw [List.all_map, List.all_eq_true]
        intro c hc
        exact decide_eq_true (h3 c hc)
      rw [this] at p
      cases p
    rintro H1 ⟨e3, s1⟩
    have h3 : ∀ c ∈ figL s, c ∈ ten.cps.toList := by
      have : ((figL s).map fun c => decide (c ∈ (Str.ofString "0123456789").cps.toList)).all id = true := by
        cases h : ((figL s).map fun c => decide (c ∈ (Str.ofString "0123456789").cps.toList)).all id with
        | true => rfl
        | false => rw [h] at e3; cases e3
      rw [List.all_map, List.all_eq_true] at this
      exact fun c hc => of_decide_eq_true (this c hc)
    have TZ : PuT (tAnd (tB (tBM K "str" (fun x xs H Q => ∃ a b, x = .str a ∧ xs = [.str b] ∧ Q (.bl (decide (0 + b.length ≤ a.length) && Builtin.Str.subAt a b 0)) H) (tVar 1) (tCons (tC (.str (Str.ofString "0"))) tNil))) (tTest (tOp rNe (tVar 0) (tC (.str (Str.ofString "0")))))) [some (.str s), some (.str (figS s))] H1 (decide ((figL s)[0]? = some 48) && !decide (s = Str.ofString "0")) := by
      refine pt_and ?_ (fun e => pt_t (pu_neStr (pu_v rfl) pu_c))
      have := pu_starts (K := K) (to := tVar 1) (tb := tC (.str (Str.ofString "0"))) (σ := [some (.str s), some (.str (figS s))]) (H := H1) (pu_v rfl) pu_c
      rw [s_zero, starts_one] at this
      rw [← s_zero] at this
      exact pt_b this
    refine st_ifN TZ (fun e => ?_) fun e => ?_
    · refine no (nOk e fun p z => ?_) _ s1
      rw [Bool.and_eq_true, decide_eq_true_iff, Bool.not_eq_true', decide_eq_false_iff_not] at p
      exact ((wOk_iff s).mp z).2.2.2 ⟨p.1, p.2⟩
    · have good : wOk s = true := (wOk_iff s).mpr ⟨by omega, by omega, h3, fun z => by
        rw [decide_eq_true z.1, decide_eq_false z.2] at e
        cases e⟩
      obtain ⟨rd, l61⟩ := wOk_int good
      exact st_ret (fun Q q => (pa_c (pu_v rfl) pa_n : PuA (tCons (tVar 0) tNil) _ _ [.str s]) _ ⟨s, wVal s, rfl, rd, by omega, q⟩) (k _ (rW_yes good) _ s1)
def dF (f : Int × Int) : D := .tup [.int f.1, .int f.2]
/-- a reader of texts -/
def RdSp (t : Adr) (r : Str → Option D) : Sp := fun vs H Q E => (∃ s, vs = [.str s] ∧ TxOk s ∧ (∀ d, r s = some d → ∀ v H', Same H H' → New H H' v d → Q v H') ∧ (r s = none → ∀ H', Same H H' → E (.ref t.c_NoText) none H')) ∨ ∃ hd v d, vs = [v] ∧ DAt hd H v d ∧ d.isStr = false ∧ ∀ H', Same H H' → E (.ref t.c_NoText) none H'
theorem RdSp.len {t : Adr} {r : Str → Option D} {vs : List V} {H : Hp} {Q : VK} {E : XK} (h : RdSp t r vs H Q E) : vs.length = 1 := by
  rcases h with ⟨s, rfl, _⟩ | ⟨hd, v, d, rfl, _⟩ <;> rfl
def spx_read_fraction (t : Adr) : Sp := RdSp t fun s => (rF s).map dF
theorem rF_one {s p : Str} (h : Txt.split s (Str.ofString "/") = [p]) : rF s = (rW s).map fun n => (n, 1) := by
  have e := split_one h
  unfold rF
  rw [h, e]
theorem rF_all {s : Str} {ps : List Str} {ns : List Int} (hp : Txt.split s (Str.ofString "/") = ps) (h : allM rW ps = some ns) (h1 : ps.length ≠ 1) : rF s = if isFr ns = true ∧ ns[1]? ≠ some 1 then (match ns with | [x, y] => some (x, y) | _ => none) else none := by
  unfold rF
  rw [hp]
  have hl := (allM_some h).1
  match ps, ns, h, hl, h1 with
  | [], [], _, _, _ => rfl
  | [a], _, _, _, h1 => exact absurd rfl h1
  | [a, b], [x, y], h, _, _ =>
    obtain ⟨_, g⟩ := allM_some h
    obtain ⟨x', ex, e1⟩ := g 0 a rfl
    obtain ⟨y', ey, e2⟩ := g 1 b rfl
    cases ex
    cases ey
    simp only [e1, e2]
    have : (2 ≤ y ∧ Int.gcd x y = 1) ↔ (isFr [x, y] = true ∧ ([x, y] : List Int)[1]? ≠ some 1) := by
      simp only [isFr, Bool.and_eq_true, decide_eq_true_iff, List.getElem?_cons_succ, List.getElem?_cons_zero, ne_eq, Option.some.injEq]
      omega
    by_cases z : 2 ≤ y ∧ Int.gcd x y = 1
    · rw [if_pos z, if_pos (this.mp z)]
    · rw [if_neg z, if_neg fun q => z (this.mpr q)]
  | a :: b :: c :: r, x :: y :: z :: q, _, _, _ =>
    have : isFr (x :: y :: z :: q) = false := rfl
    rw [if_neg (by rw [this]; simp)]
theorem rF_none {s : Str} {ps : List Str} (hp : Txt.split s (Str.ofString "/") = ps) (h : allM rW ps = none) (h1 : ps.length ≠ 1) : rF s = none := by
  unfold rF
  rw [hp]
  match ps, h, h1 with
  | [], h, _ => cases h
  | [a], _, h1 => exact absurd rfl h1
  | [a, b], h, _ =>
    simp only [allM] at h
    cases e1 : rW a with
    | none => simp only [e1]
    | some x =>
      cases e2 : rW b with
      | none => simp only [e1, e2]
      | some y => rw [e1, e2] at h; cases h
  | a :: b :: c :: r, _, _ => rfl
theorem ints_of {hd : Addr} {H : Hp} : ∀ {ys : List V} {ns : List Int}, DsAt hd H ys (ns.map D.int) → ys = ns.map V.int
  | _, [], .nil => rfl
  | _, n :: ns, .cons (.int _) t => by rw [ints_of t]; rfl
theorem tup_new {H H' : Hp} {a : Addr} {ns : List Int} (h : H' a = some (.tup (ns.map V.int))) : New H H' (.ref a) (.tup (ns.map D.int)) := fun hd _ => .tup h (by
  clear h
  induction ns with
  | nil => exact .nil
  | cons n ns ih => exact .cons (.int n) ih)
theorem TupT.new {H H' : Hp} {v : V} {ns : List Int} (h : TupT H' v ns) : New H H' v (.tup (ns.map D.int)) := by
  obtain ⟨a, rfl, h⟩ := h
  exact tup_new h
theorem some_ne {H : Hp} {a : Addr} {o : HO} (h : H a = some o) : H a ≠ none := by rw [h]; exact fun z => by cases z
theorem gv_spl {K : PySem.W.Frag} {σ : L2.St} {H : Hp} {to tb : TE} {s b : Str} (ho : Pu to σ H (.str s)) (hb : Pu tb σ H (.str b)) (hs : TxOk s) (h1 : 1 ≤ b.length) : Gv (tBM K "str" (fun x xs H Q => ∃ a b, x = .str a ∧ xs = [.str b] ∧ 1 ≤ b.length ∧ a.length ≤ sizeLine ∧ (Txt.split a b).length ≤ sizeLine ∧ ∀ p, H p = none → Q (.ref p) (upd H p (.lst ((Txt.split a b).map V.str)))) to (tCons tb tNil)) σ H (fun v H' => ∃ p, H p = none ∧ v = .ref p ∧ H' = upd H p (.lst ((Txt.split s b).map V.str))) := by
  have big : 1000000 ≤ sizeLine := by decide
  have l1 := hs.2
  have l2 := split_count (x := s) h1
  exact gv_split ho hb h1 (by omega) rfl (by omega)
theorem one_len : ∀ z ∈ [Str.ofString "/", Str.ofString ",", Str.ofString " ", Str.ofString " | "], 1 ≤ z.length := by decide +kernel
theorem sc_read_fraction : FnScope ["text", "parts", "one"] ["text"] (defScope s_read_fraction) := ⟨rfl, rfl, rfl, by decide +kernel, rfl, by decide +kernel, by decide +kernel⟩
theorem okx_read_fraction (T : Txt K mg t w) : FnOk P w K mg base (CXE P w) 3 t.f_read_fraction t.d_read_fraction ["text"] (spx_read_fraction t) := by
  refine T.read_fraction.F.okE (k := 2) sc_read_fraction (fun vs H Q E h => ?_) (fun cdv A outer s H vs Q E hr h => ?_)
  · exact h.len
  · refine ⟨_, (@pss_cons _ _ _ _ _ (@ps_expr _ _ _ _ (@pe_fnX _ _ _ _ _ _ _ _ _ _ _ _ _ _ _ _ _ T.check_text (okx_check_text T) hr (by decide) passX (@pa_cons _ _ _ _ _ (pv 0) (@pa_nil _) star_name) (by rfl) (by decide) (by rfl) (by rfl)) (by rfl)) (@pss_cons _ _ _ _ _ (@ps_set _ _ 1 _ _ _ _ sc_read_fraction.nd rfl (Or.inl rfl) (@pe_bm _ _ _ _ _ _ _ _ _ _ _ _ PySem.F.plainAttrs_str PySem.F.slot_str_split PySem.F.type_str_split mt_split (pv 0) (@pa_cons _ _ _ _ _ (@pe_str _ _ _ _) (@pa_nil _) star_con) (by rfl) (by rfl) (by rfl) (by rfl) (by rfl)) (by rfl) (by first | exact .inl rfl | exact .inr rfl | assumption)) (@pss_cons _ _ _ _ _ (@ps_if _ _ _ _ _ _ _ _ (@pt_cmpR _ _ _ _ _ _ _ _ op_eq (@pe_callB _ _ _ _ _ _ _ _ _ call_len_seq (by rfl) T.b_len PySem.boot_len (@pa_cons _ _ _ _ _ (pv 1) (@pa_nil _) star_name) (by decide) (by decide) (by rfl) (by rfl)) (@pe_int _ _ _ _) (nomark _)) (@pss_one _ _ _ (@ps_ret _ _ _ _ (@pe_tup _ _ _ _ _ (@pa_cons _ _ _ _ _ (@pe_fnX _ _ _ _ _ _ _ _ _ _ _ _ _ _ _ _ _ T.read_whole (okx_read_whole T) hr (by decide) passX (@pa_cons _ _ _ _ _ (pv 0) (@pa_nil _) star_name) (by rfl) (by decide) (by rfl) (by rfl)) (@pa_cons _ _ _ _ _ (@pe_int _ _ _ _) (@pa_nil _) star_con) star_call)))) (@pss_nil _)) (@pss_cons _ _ _ _ _ (@ps_set _ _ 2 _ _ _ _ sc_read_fraction.nd rfl (Or.inl rfl) (@pe_callTy _ _ _ _ _ _ _ _ _ call_tuple_of (by rfl) T.b_tuple PyProof.Rows.boot_tuple (@pa_cons _ _ _ _ _ (@pe_lcompX _ _ _ _ _ _ _ _ _ _ _ _ _ _ _ _ rfl _ _ _ _ [] _ ["part"] _ (fun _ => [none]) _ _ rfl (@pi_list _ _ _ _ (pv 1)) (fun _ _ _ _ => pg_name (i := 0) (List.nodup_cons.mpr ⟨fun h => (nomatch h), List.nodup_nil⟩) rfl (Or.inl rfl) (.inr rfl)) (fun _ _ _ _ => (@pe_fnX _ _ _ _ _ _ _ _ _ _ _ _ _ _ _ _ _ T.read_whole (okx_read_whole T) hr (by decide) passB (@pa_cons _ _ _ _ _ (pv 0) (@pa_nil _) star_name) (by rfl) (by decide) (by rfl) (by rfl))) (closureFor_none (by decide +kernel)) rfl (by decide +kernel) (by decide +kernel) (fun _ _ h => by cases h) (noCells (by rfl)) (fun _ _ => rfl) (fun _ i _ _ _ h => by cases i with | zero => cases h | succ i => simp at h) (by intro _; rfl)) (@pa_nil _) star_lc) (by decide) (by decide) (by rfl) (by rfl)) (by rfl) (by first | exact .inl rfl | exact .inr rfl | assumption)) (@pss_cons _ _ _ _ _ (@ps_if _ _ _ _ _ _ _ _ (PW.pt (@pw_or _ _ _ _ _ _ _ (@pt_not _ _ _ _ (@pt_val _ _ _ (@pe_fn _ _ _ _ _ _ _ _ _ _ _ _ _ _ T.is_fraction (ok_is_fraction T) hr (by decide) (@pa_cons _ _ _ _ _ (pv 2) (@pa_nil _) star_name) (by rfl) (by decide) (by rfl) (by rfl)) (by intro _; rfl))) (@pw_or1 _ _ _ _ (@pt_cmpR _ _ _ _ _ _ _ _ op_eq (@pe_ix _ _ _ _ _ _ _ ix_tup (pv 2) (@pe_int _ _ _ _) (fun _ _ => rfl)) (@pe_int _ _ _ _) (nomark _))))) (@pss_one _ _ _ (@ps_raise0 _ _ _ _ _ _ _ _ _ _ _ _ _ _ _ _ _ _ _ _ T.e_NoText T.m_NoText rfl (by decide))) (@pss_nil _)) (@pss_one _ _ _ (@ps_ret _ _ _ _ (pv 2)))))))), ?_⟩
    rcases h with ⟨s, rfl, tx, k, kx⟩ | ⟨hd, v, d, rfl, hv, nd, kx⟩
    case inr => exact st_exprG (R := fun _ _ => False) (gv_call (sp := spx_check_text t) (pa_c (pu_v rfl) pa_n) fun Q f => .inr ⟨hd, v, d, rfl, hv, nd, kx _ Same.rfl'⟩) fun _ _ z => z.elim
    dsimp only at k kx
    have l1 := tx.2
    have l2 := split_count (x := s) (y := Str.ofString "/") (one_len _ (by simp))
    refine st_exprG (R := fun v H' => H = H') (gv_call (sp := spx_check_text t) (pa_c (pu_v rfl) pa_n) fun Q f => .inl ⟨_, rfl, f _ _ rfl⟩) ?_
    rintro _ _ rfl
    refine st_setG (gv_spl (pu_v rfl) pu_c tx (one_len _ (by simp))) ?_
    rintro _ _ ⟨p, hp, rfl, rfl⟩
    have s0 : Same H (upd H p (.lst ((Txt.split s (Str.ofString "/")).map V.str))) := Same.upd hp
    have hpl : (upd H p (.lst ((Txt.split s (Str.ofString "/")).map V.str))) p = some (.lst ((Txt.split s (Str.ofString "/")).map V.str)) := upd_same
    have tok : ∀ q ∈ Txt.split s (Str.ofString "/"), TxOk q := fun q hq => split_ok tx hq
    have rf1 : ∀ q, Txt.split s (Str.ofString "/") = [q] → rF s = (rW s).map fun n => (n, 1) := fun q e => rF_one e
    have rfa : ∀ ns, allM rW (Txt.split s (Str.ofString "/")) = some ns → (Txt.split s (Str.ofString "/")).length ≠ 1 → rF s = if isFr ns = true ∧ ns[1]? ≠ some 1 then (match ns with | [x, y] => some (x, y) | _ => none) else none := fun ns e1 e2 => rF_all rfl e1 e2
    have rfn : allM rW (Txt.split s (Str.ofString "/")) = none → (Txt.split s (Str.ofString "/")).length ≠ 1 → rF s = none := fun e1 e2 => rF_none rfl e1 e2
    have ne0 := split_ne (x := s) (y := Str.ofString "/") (one_len _ (by simp))
    revert s0 hpl l2 tok rf1 rfa rfn ne0
    generalize upd H p (.lst ((Txt.split s (Str.ofString "/")).map V.str)) = H1
    generalize Txt.split s (Str.ofString "/") = ps
    intro l2 s0 hpl tok rf1 rfa rfn ne0
    by_cases h1 : ps.length = 1
    · obtain ⟨q, rfl⟩ : ∃ q, ps = [q] := by
        match ps, h1 with
        | [q], _ => exact ⟨q, rfl⟩
      have ef := rf1 q rfl
      refine st_ifN (b := true) (pt_t (pu_eqI (pu_lenL (pa_c (pu_v rfl) pa_n) (SqL.of hpl)) pu_c)) (fun _ => ?_) (fun e => by cases e)
      cases hw : rW s with
      | none =>
        rw [hw] at ef
        refine st_retG (R := fun _ _ => False) (gv_tupA (RA := fun _ _ => False) (fun Q q => ?_) (fun _ _ z => z.elim)) fun _ _ z => z.elim
        exact gv_call (sp := spx_read_whole t) (R := fun _ _ => False) (pa_c (pu_v rfl) pa_n) (fun Q q => ⟨s, rfl, tx, (fun n e => by rw [hw] at e; cases e), fun _ H' s' => kx (by rw [ef]; rfl) _ (s0.trans s')⟩) _ (fun _ _ z => z.elim)
      | some n =>
        rw [hw] at ef
        refine st_retG (R := fun r H' => Same H H' ∧ New H H' r (dF (n, 1))) (gv_tupA (RA := fun vs H' => vs = [.int n, .int 1] ∧ Same H H') (fun Q q => ?_) ?_) fun r H' z => k _ (by rw [ef]; rfl) r H' z.1 z.2
        · refine gv_call (sp := spx_read_whole t) (R := fun v H' => v = .int n ∧ Same H H') (pa_c (pu_v rfl) pa_n) (fun Q q => ⟨s, rfl, tx, (fun m e H' s' => by rw [hw] at e; cases e; exact q _ _ ⟨rfl, s0.trans s'⟩), fun z => by rw [hw] at z; cases z⟩) _ ?_
          rintro _ H2 ⟨rfl, s2⟩
          exact q _ _ ⟨rfl, s2⟩
        · rintro _ H2 ⟨rfl, s2⟩
          exact ⟨len2, fun a ha => ⟨s2.trans (Same.upd ha), tup_new (ns := [n, 1]) upd_same⟩⟩
    · refine st_ifN (b := false) (pt_t (pu_cast (pu_eqI (pu_lenL (pa_c (pu_v rfl) pa_n) (SqL.of hpl)) pu_c) (by rw [decide_eq_false]; rw [List.length_map]; omega))) (fun e => by cases e) (fun _ => ?_)
      cases hall : allM rW ps with
      | none =>
        have ef := rfn hall h1
        obtain ⟨j, sj, ej, bj, gj⟩ := allM_none hall
        have hj : j < ps.length := (List.getElem?_eq_some_iff.mp ej).1
        refine st_setG (R := fun _ _ => False) (gv_cb1 (gv_compBad2 (fr := fun _ => [none]) (k := 0) (j := j) (pu_v rfl) hpl (by rw [List.length_map]; omega) (by rw [List.length_map]; exact hj) (fun _ => KeepS.none1) ?_ ?_) (fun _ _ z => z.elim)) (fun _ _ z => z.elim)
        · intro i x H' hi hx s'
          rw [List.getElem?_map] at hx
          cases ei : ps[i]? with
          | none => rw [ei] at hx; cases hx
          | some q =>
            rw [ei] at hx
            have e1 : V.str q = x := Option.some.inj hx
            subst e1
            obtain ⟨n, hn⟩ := gj i q hi ei
            exact gv_call (sp := spx_read_whole t) (pa_c (pu_v rfl) pa_n) fun Q q' => ⟨q, rfl, tok q (List.mem_of_getElem? ei), (fun m _ H'' s'' => q' _ _ s''), fun z => by rw [hn] at z; cases z⟩
        · intro x H' hx s'
          rw [List.getElem?_map, ej] at hx
          have e1 : V.str sj = x := Option.some.inj hx
          subst e1
          exact gv_call (sp := spx_read_whole t) (pa_c (pu_v rfl) pa_n) fun Q q' => ⟨sj, rfl, tok sj (List.mem_of_getElem? ej), (fun m e => by rw [bj] at e; cases e), fun _ H'' s'' => kx (by rw [ef]; rfl) _ (s0.trans (s'.trans s''))⟩
      | some ns =>
        have ef := rfa ns hall h1
        obtain ⟨nl, g⟩ := allM_some hall
        have n2 : 2 ≤ ns.length := by
          rw [nl]
          have : ps.length ≠ 0 := fun z => ne0 (List.eq_nil_of_length_eq_zero z)
          omega
        have two : ns.length ≤ sizeLine := Nat.le_trans (show ns.length ≤ 1000000 by omega) (by decide)
        refine st_setG (R := fun v H' => Same H H' ∧ TupT H' v ns) (gv_cb1 (gv_compRd (ds := ns.map D.int) (fr := fun _ => [none]) (k := 0) (pu_v rfl) hpl (by rw [List.length_map]; omega) (fun _ => KeepS.none1) (by rw [List.length_map, List.length_map, nl]) ?_) ?_) ?_
        · intro i x d H' hx hd' s'
          rw [List.getElem?_map] at hx
          cases ei : ps[i]? with
          | none => rw [ei] at hx; cases hx
          | some q =>
            rw [ei] at hx
            have e1 : V.str q = x := Option.some.inj hx
            subst e1
            obtain ⟨n, hn, hq⟩ := g i q ei
            rw [List.getElem?_map, hn] at hd'
            have e2 : D.int n = d := Option.some.inj hd'
            subst e2
            exact gv_call (sp := spx_read_whole t) (pa_c (pu_v rfl) pa_n) fun Q q' => ⟨q, rfl, tok q (List.mem_of_getElem? ei), (fun m e H'' s'' => by rw [hq] at e; cases e; exact q' _ _ ⟨s'', fun hd _ => .int n⟩), fun z => by rw [hq] at z; cases z⟩
        · rintro _ H2 ⟨s2, D, ys, rfl, _, hD, hds⟩ Q q
          have ey := ints_of (hds p (some_ne hpl))
          subst ey
          exact ⟨D, _, rfl, .inl ⟨SqL.of hD, fun a ha => q _ _ ⟨s0.trans (s2.trans (Same.upd ha)), TupT.of (ns := ns) upd_same⟩⟩⟩
        rintro v H2 ⟨s2, tv⟩
        obtain ⟨y1, hy1⟩ : ∃ y1, ns[1]? = some y1 := ⟨_, List.getElem?_eq_getElem (show 1 < ns.length by omega)⟩
        refine st_ifNG (R := fun b H' => b = (!(isFr ns && !decide (y1 = 1))) ∧ Same H2 H') (gt_or (R := fun b H' => b = (!isFr ns) ∧ Same H2 H') (gt_nb (gv_call (pa_c (pu_v rfl) pa_n) fun Q q => ⟨v, ns, rfl, tv, fun H' s => q _ _ ⟨rfl, s⟩⟩)) (fun H' e => ?_) (fun H' e => ⟨by cases hf : isFr ns with | true => rw [hf] at e; cases e.1 | false => rfl, e.2⟩)) (fun H' e => ?_) ?_
        · obtain ⟨a, rfl, ha⟩ := tv.same e.2
          have hf : isFr ns = true := by
            cases hf : isFr ns with
            | true => rfl
            | false => rw [hf] at e; cases e.1
          refine PuT.gt (pt_t (pu_eqI (pu_ixT (pu_v rfl) pu_c (SqT.of ha) (atI_nat (j := 1) (v := V.int y1) (by rw [List.getElem?_map, hy1]; rfl))) pu_c)) ⟨?_, e.2⟩
          rw [hf]
          simp
        · refine kx ?_ _ (s2.trans e.2)
          rw [ef, if_neg]
          · rfl
          · rintro ⟨q1, q2⟩
            have e1 := e.1
            rw [q1, decide_eq_false (fun z => q2 (by rw [hy1, z]))] at e1
            cases e1
        rintro H3 ⟨e3, s3⟩
        have hf : isFr ns = true ∧ y1 ≠ 1 := by
          cases hf : isFr ns with
          | false => rw [hf] at e3; cases e3
          | true =>
            refine ⟨rfl, fun z => ?_⟩
            rw [hf, decide_eq_true z] at e3
            cases e3
        match ns, hf.1, n2 with
        | [x, y], hfr, _ =>
          have ey : y = y1 := by simpa using hy1
          subst ey
          refine st_ret (pu_v rfl) (k (dF (x, y)) ?_ v H3 (s2.trans s3) (TupT.new (tv.same s3)))
          rw [ef, if_pos ⟨hfr, by simpa using hf.2⟩]
          rfl
        | x :: y :: z :: r, hfr, _ => cases hfr
def dPt (p : Pt3) : D := .tup ([p.x, p.y, p.z].map D.int)
def spx_read_point (t : Adr) : Sp := RdSp t fun s => (rP s).map dPt
theorem at0 {x : V} {xs : List V} : atI (x :: xs) 0 = some x := atI_nat (j := 0) rfl
theorem at1 {x y : V} {xs : List V} : atI (x :: y :: xs) 1 = some y := atI_nat (j := 1) rfl
theorem at2 {x y z : V} {xs : List V} : atI (x :: y :: z :: xs) 2 = some z := atI_nat (j := 2) rfl
theorem dF_tup {hd : Addr} {H : Hp} {v : V} {f : Int × Int} : DAt hd H v (dF f) → TupT H v [f.1, f.2]
  | .tup h (.cons (.int _) (.cons (.int _) .nil)) => TupT.of (ns := [f.1, f.2]) h
theorem sc_read_point : FnScope ["text", "parts"] ["text"] (defScope s_read_point) := ⟨rfl, rfl, rfl, by decide +kernel, rfl, by decide +kernel, by decide +kernel⟩
theorem okx_read_point (T : Txt K mg t w) : FnOk P w K mg base (CXE P w) 4 t.f_read_point t.d_read_point ["text"] (spx_read_point t) := by
  refine T.read_point.F.okE (k := 3) sc_read_point (fun vs H Q E h => ?_) (fun cdv A outer s H vs Q E hr h => ?_)
  · exact h.len
  · refine ⟨_, (@pss_cons _ _ _ _ _ (@ps_expr _ _ _ _ (@pe_fnX _ _ _ _ _ _ _ _ _ _ _ _ _ _ _ _ _ T.check_text (okx_check_text T) hr (by decide) passX (@pa_cons _ _ _ _ _ (pv 0) (@pa_nil _) star_name) (by rfl) (by decide) (by rfl) (by rfl)) (by rfl)) (@pss_cons _ _ _ _ _ (@ps_set _ _ 1 _ _ _ _ sc_read_point.nd rfl (Or.inl rfl) (@pe_bm _ _ _ _ _ _ _ _ _ _ _ _ PySem.F.plainAttrs_str PySem.F.slot_str_split PySem.F.type_str_split mt_split (pv 0) (@pa_cons _ _ _ _ _ (@pe_str _ _ _ _) (@pa_nil _) star_con) (by rfl) (by rfl) (by rfl) (by rfl) (by rfl)) (by rfl) (by first | exact .inl rfl | exact .inr rfl | assumption)) (@pss_cons _ _ _ _ _ (@ps_if _ _ _ _ _ _ _ _ (@pt_cmpR _ _ _ _ _ _ _ _ op_ne (@pe_callB _ _ _ _ _ _ _ _ _ call_len_seq (by rfl) T.b_len PySem.boot_len (@pa_cons _ _ _ _ _ (pv 1) (@pa_nil _) star_name) (by decide) (by decide) (by rfl) (by rfl)) (@pe_int _ _ _ _) (nomark _)) (@pss_one _ _ _ (@ps_raise0 _ _ _ _ _ _ _ _ _ _ _ _ _ _ _ _ _ _ _ _ T.e_NoText T.m_NoText rfl (by decide))) (@pss_nil _)) (@pss_one _ _ _ (@ps_ret _ _ _ _ (@pe_fn _ _ _ _ _ _ _ _ _ _ _ _ _ _ T.point_of (ok_point_of T) hr (by decide) (@pa_cons _ _ _ _ _ (@pe_fnX _ _ _ _ _ _ _ _ _ _ _ _ _ _ _ _ _ T.read_fraction (okx_read_fraction T) hr (by decide) passX (@pa_cons _ _ _ _ _ (@pe_ix _ _ _ _ _ _ _ ix_list (pv 1) (@pe_int _ _ _ _) (fun _ _ => rfl)) (@pa_nil _) star_sub) (by rfl) (by decide) (by rfl) (by rfl)) (@pa_cons _ _ _ _ _ (@pe_fnX _ _ _ _ _ _ _ _ _ _ _ _ _ _ _ _ _ T.read_fraction (okx_read_fraction T) hr (by decide) passX (@pa_cons _ _ _ _ _ (@pe_ix _ _ _ _ _ _ _ ix_list (pv 1) (@pe_int _ _ _ _) (fun _ _ => rfl)) (@pa_nil _) star_sub) (by rfl) (by decide) (by rfl) (by rfl)) (@pa_nil _) star_call) star_call) (by rfl) (by decide) (by rfl) (by rfl))))))), ?_⟩
    rcases h with ⟨s, rfl, tx, k, kx⟩ | ⟨hd, v, d, rfl, hv, nd, kx⟩
    case inr => exact st_exprG (R := fun _ _ => False) (gv_call (sp := spx_check_text t) (pa_c (pu_v rfl) pa_n) fun Q f => .inr ⟨hd, v, d, rfl, hv, nd, kx _ Same.rfl'⟩) fun _ _ z => z.elim
    dsimp only at k kx
    refine st_exprG (R := fun v H' => H = H') (gv_call (sp := spx_check_text t) (pa_c (pu_v rfl) pa_n) fun Q f => .inl ⟨_, rfl, f _ _ rfl⟩) ?_
    rintro _ _ rfl
    refine st_setG (gv_spl (pu_v rfl) pu_c tx (one_len _ (by simp))) ?_
    rintro _ _ ⟨p, hp, rfl, rfl⟩
    have s0 : Same H (upd H p (.lst ((Txt.split s (Str.ofString ",")).map V.str))) := Same.upd hp
    have hpl : (upd H p (.lst ((Txt.split s (Str.ofString ",")).map V.str))) p = some (.lst ((Txt.split s (Str.ofString ",")).map V.str)) := upd_same
    have tok : ∀ q ∈ Txt.split s (Str.ofString ","), TxOk q := fun q hq => split_ok tx hq
    have rp : rP s = match Txt.split s (Str.ofString ",") with
      | [a, b] => match rF a, rF b with
        | some x, some y => some (ptF x y)
        | _, _ => none
      | _ => none := rfl
    revert s0 hpl tok rp
    generalize upd H p (.lst ((Txt.split s (Str.ofString ",")).map V.str)) = H1
    generalize Txt.split s (Str.ofString ",") = ps
    intro s0 hpl tok rp
    by_cases h2 : ps.length = 2
    case neg =>
      refine st_ifN (b := true) (pt_t (pu_cast (pu_neI (pu_lenL (pa_c (pu_v rfl) pa_n) (SqL.of hpl)) pu_c) (by rw [List.length_map]; simp; omega))) (fun _ => ?_) (fun e => by cases e)
      refine kx ?_ _ s0
      rw [rp]
      match ps, h2 with
      | [], _ => rfl
      | [_], _ => rfl
      | [_, _], h => exact absurd rfl h
      | _ :: _ :: _ :: _, _ => rfl
    match ps, h2 with
    | [a, b], _ =>
    have rp' : rP s = match rF a, rF b with
        | some x, some y => some (ptF x y)
        | _, _ => none := rp
    refine st_ifN (b := false) (pt_t (pu_neI (pu_lenL (pa_c (pu_v rfl) pa_n) (SqL.of hpl)) pu_c)) (fun e => by cases e) (fun _ => ?_)
    cases ha : rF a with
    | none =>
      have ep : rP s = none := by rw [rp', ha]
      exact st_retG (R := fun _ _ => False) (gv_callA (ga_cons (R1 := fun _ _ => False) (gv_call (sp := spx_read_fraction t) (pa_c (pu_ixL (pu_v rfl) pu_c (SqL.of hpl) at0) pa_n) fun Q f => .inl ⟨a, rfl, tok a (by simp), (fun d e => by simp [ha] at e), fun _ H' s' => kx (by rw [ep]; rfl) _ (s0.trans s')⟩) fun _ _ z => z.elim (C := GvA _ _ _ fun _ _ => False)) (fun vs H4 ⟨_, _, _, _, z, _⟩ => z.elim)) fun _ _ z => z.elim
    | some x =>
      obtain ⟨fx, x1, x2⟩ := rF_good ha
      have g1 : ∀ {σ : L2.St} {H' : Hp}, Same H1 H' → σ[1]? = some (some (.ref p)) → Gv (tCall (spx_read_fraction t) [] E (tCons (tOp (rIxL K) (tVar 1) (tC (.int 0))) tNil)) σ H' (fun r H'' => Same H' H'' ∧ TupT H'' r [x.1, x.2]) := fun {σ H'} s' h1 => gv_call (pa_c (pu_ixL (pu_v h1) pu_c (SqL.of (s' _ _ hpl)) at0) pa_n) fun Q f => .inl ⟨a, rfl, tok a (by simp), (fun d e v H'' s'' nw => by simp only [ha, Option.map_some, Option.some.injEq] at e; subst e; exact f _ _ ⟨s'', dF_tup (nw p (some_ne (s' _ _ hpl)))⟩), fun z => by simp [ha] at z⟩
      cases hb : rF b with
      | none =>
        have ep : rP s = none := by rw [rp', ha, hb]
        exact st_retG (R := fun _ _ => False) (gv_callA (ga_cons (g1 Same.rfl' rfl) fun v H2 r2 => ga_cons (R1 := fun _ _ => False) (gv_call (sp := spx_read_fraction t) (pa_c (pu_ixL (pu_v rfl) pu_c (SqL.of (r2.1 _ _ hpl)) at1) pa_n) fun Q f => .inl ⟨b, rfl, tok b (by simp), (fun d e => by simp [hb] at e), fun _ H' s' => kx (by rw [ep]; rfl) _ (s0.trans (r2.1.trans s'))⟩) fun _ _ z => z.elim (C := GvA _ _ _ fun _ _ => False)) (fun vs H4 ⟨_, _, _, _, _, _, _, _, _, z, _⟩ => z.elim)) fun _ _ z => z.elim
      | some y =>
        obtain ⟨fy, y1, y2⟩ := rF_good hb
        have ep : rP s = some (ptF x y) := by rw [rp', ha, hb]
        refine st_retG (R := fun r H' => Same H H' ∧ AtP H' r (ptF x y)) (gv_callA (ga_cons (g1 Same.rfl' rfl) fun v H2 r2 => ga_cons (gv_call (sp := spx_read_fraction t) (R := fun r H' => Same H2 H' ∧ TupT H' r [y.1, y.2]) (pa_c (pu_ixL (pu_v rfl) pu_c (SqL.of (r2.1 _ _ hpl)) at1) pa_n) fun Q f => .inl ⟨b, rfl, tok b (by simp), (fun d e v H'' s'' nw => by simp only [hb, Option.map_some, Option.some.injEq] at e; subst e; exact f _ _ ⟨s'', dF_tup (nw p (some_ne (r2.1 _ _ hpl)))⟩), fun z => by simp [hb] at z⟩) fun _ _ _ => ga_nil) ?_) fun r H' z => k (dPt (ptF x y)) (by rw [ep]; rfl) r H' z.1 (TupT.new z.2)
        rintro vs H4 ⟨v, H2, r, rfl, ⟨s2, t2⟩, w, H3, r3, rfl, ⟨s3, t3⟩, rfl, rfl⟩ Q f
        exact ⟨v, w, x, y, rfl, t2.same s3, t3, fx, fy, fun r H' s' t' => f _ _ ⟨s0.trans (s2.trans (s3.trans s')), t'⟩⟩
def dRg (r : List Pt3) : D := .lst (r.map dPt)
def spx_read_ring (t : Adr) : Sp := fun vs H Q E => ∃ s, vs = [.str s] ∧ TxOk s ∧ (∀ r, rR s = some r → ∀ v H', Same H H' → New H H' v (dRg r) → Q v H') ∧ (rR s = none → ∀ H', Same H H' → E (.ref t.c_NoText) none H')
theorem sc_read_ring : FnScope ["text"] ["text"] (defScope s_read_ring) := ⟨rfl, rfl, rfl, by decide +kernel, rfl, by decide +kernel, by decide +kernel⟩
theorem okx_read_ring (T : Txt K mg t w) : FnOk P w K mg base (CXE P w) 5 t.f_read_ring t.d_read_ring ["text"] (spx_read_ring t) := by
  refine T.read_ring.F.okE (k := 4) sc_read_ring (fun vs H Q E h => ?_) (fun cdv A outer s H vs Q E hr h => ?_)
  · obtain ⟨s, rfl, _⟩ := h
    rfl
  · obtain ⟨s, rfl, tx, k, kx⟩ := h
    refine ⟨_, (@pss_one _ _ _ (@ps_ret _ _ _ _ (@pe_lcompX _ _ _ _ _ _ _ _ _ _ _ _ _ _ _ _ rfl _ _ _ _ [] _ ["word"] _ (fun _ => [none]) _ _ rfl (@pi_list _ _ _ _ (@pe_bm _ _ _ _ _ _ _ _ _ _ _ _ PySem.F.plainAttrs_str PySem.F.slot_str_split PySem.F.type_str_split mt_split (pv 0) (@pa_cons _ _ _ _ _ (@pe_str _ _ _ _) (@pa_nil _) star_con) (by rfl) (by rfl) (by rfl) (by rfl) (by rfl))) (fun _ _ _ _ => pg_name (i := 0) (List.nodup_cons.mpr ⟨fun h => (nomatch h), List.nodup_nil⟩) rfl (Or.inl rfl) (.inr rfl)) (fun _ _ _ _ => (@pe_fnX _ _ _ _ _ _ _ _ _ _ _ _ _ _ _ _ _ T.read_point (okx_read_point T) hr (by decide) passB (@pa_cons _ _ _ _ _ (pv 0) (@pa_nil _) star_name) (by rfl) (by decide) (by rfl) (by rfl))) (closureFor_none (by decide +kernel)) rfl (by decide +kernel) (by decide +kernel) (fun _ _ h => by cases h) (noCells (by rfl)) (fun _ _ => rfl) (fun _ i _ _ _ h => by cases i with | zero => cases h | succ i => simp at h) (by intro _; rfl)))), ?_⟩
    have l1 := tx.2
    have l2 := split_count (x := s) (y := Str.ofString " ") (one_len _ (by simp))
    refine st_retG (R := fun v H' => Q v H') (gv_compOf (gv_spl (pu_v rfl) pu_c tx (one_len _ (by simp))) ?_) fun _ _ z => z
    rintro _ _ ⟨p, hp, rfl, rfl⟩
    have s0 : Same H (upd H p (.lst ((Txt.split s (Str.ofString " ")).map V.str))) := Same.upd hp
    have hpl : (upd H p (.lst ((Txt.split s (Str.ofString " ")).map V.str))) p = some (.lst ((Txt.split s (Str.ofString " ")).map V.str)) := upd_same
    have tok : ∀ q ∈ Txt.split s (Str.ofString " "), TxOk q := fun q hq => split_ok tx hq
    have er : rR s = allM rP (Txt.split s (Str.ofString " ")) := rfl
    revert l2 s0 hpl tok er
    generalize upd H p (.lst ((Txt.split s (Str.ofString " ")).map V.str)) = H1
    generalize Txt.split s (Str.ofString " ") = ps
    intro l2 s0 hpl tok er
    cases hall : allM rP ps with
    | none =>
      obtain ⟨j, sj, ej, bj, gj⟩ := allM_none hall
      have hj : j < ps.length := (List.getElem?_eq_some_iff.mp ej).1
      refine (gv_compBad2 (fr := fun _ => [none]) (k := 0) (j := j) pu_c hpl (by rw [List.length_map]; omega) (by rw [List.length_map]; exact hj) (fun _ => KeepS.none1) ?_ ?_).imp fun _ _ z => z.elim
      · intro i x H' hi hx s'
        rw [List.getElem?_map] at hx
        cases ei : ps[i]? with
        | none => rw [ei] at hx; cases hx
        | some q =>
          rw [ei] at hx
          have e1 : V.str q = x := Option.some.inj hx
          subst e1
          obtain ⟨n, hn⟩ := gj i q hi ei
          exact gv_call (sp := spx_read_point t) (pa_c (pu_v rfl) pa_n) fun Q q' => .inl ⟨q, rfl, tok q (List.mem_of_getElem? ei), (fun m _ v H'' s'' _ => q' _ _ s''), fun z => by simp [hn] at z⟩
      · intro x H' hx s'
        rw [List.getElem?_map, ej] at hx
        have e1 : V.str sj = x := Option.some.inj hx
        subst e1
        exact gv_call (sp := spx_read_point t) (pa_c (pu_v rfl) pa_n) fun Q q' => .inl ⟨sj, rfl, tok sj (List.mem_of_getElem? ej), (fun m e => by simp [bj] at e), fun _ H'' s'' => kx (by rw [er, hall]) _ (s0.trans (s'.trans s''))⟩
    | some pts =>
      obtain ⟨nl, g⟩ := allM_some hall
      refine (gv_compRd (ds := pts.map dPt) (fr := fun _ => [none]) (k := 0) pu_c hpl (by rw [List.length_map]; omega) (fun _ => KeepS.none1) (by rw [List.length_map, List.length_map, nl]) ?_).imp ?_
      · intro i x d H' hx hd' s'
        rw [List.getElem?_map] at hx
        cases ei : ps[i]? with
        | none => rw [ei] at hx; cases hx
        | some q =>
          rw [ei] at hx
          have e1 : V.str q = x := Option.some.inj hx
          subst e1
          obtain ⟨n, hn, hq⟩ := g i q ei
          rw [List.getElem?_map, hn] at hd'
          have e2 : dPt n = d := Option.some.inj hd'
          subst e2
          exact gv_call (sp := spx_read_point t) (pa_c (pu_v rfl) pa_n) fun Q q' => .inl ⟨q, rfl, tok q (List.mem_of_getElem? ei), (fun m e v H'' s'' nw => by simp only [hq, Option.map_some, Option.some.injEq] at e; subst e; exact q' _ _ ⟨s'', nw⟩), fun z => by simp [hq] at z⟩
      · rintro _ H2 ⟨s2, D, ys, rfl, fD, hD, hds⟩
        refine k pts (by rw [er, hall]) _ _ (s0.trans s2) fun hd hn => ?_
        have n1 : H1 hd ≠ none := fun z => hn (by
          cases c : H hd with
          | none => rfl
          | some o => rw [s0 _ _ c] at z; cases z)
        exact .lst hD (fun z => n1 (z ▸ fD)) (hds hd n1)
def dRgs (rs : List (List Pt3)) : D := .lst (rs.map dRg)
def spx_read_rings (t : Adr) : Sp := RdSp t fun s => (rRs s).map dRgs
theorem sc_read_rings : FnScope ["text"] ["text"] (defScope s_read_rings) := ⟨rfl, rfl, rfl, by decide +kernel, rfl, by decide +kernel, by decide +kernel⟩
theorem okx_read_rings (T : Txt K mg t w) : FnOk P w K mg base (CXE P w) 6 t.f_read_rings t.d_read_rings ["text"] (spx_read_rings t) := by
  refine T.read_rings.F.okE (k := 5) sc_read_rings (fun vs H Q E h => ?_) (fun cdv A outer s H vs Q E hr h => ?_)
  · exact h.len
  · refine ⟨_, (@pss_cons _ _ _ _ _ (@ps_expr _ _ _ _ (@pe_fnX _ _ _ _ _ _ _ _ _ _ _ _ _ _ _ _ _ T.check_text (okx_check_text T) hr (by decide) passX (@pa_cons _ _ _ _ _ (pv 0) (@pa_nil _) star_name) (by rfl) (by decide) (by rfl) (by rfl)) (by rfl)) (@pss_one _ _ _ (@ps_ret _ _ _ _ (@pe_lcompX _ _ _ _ _ _ _ _ _ _ _ _ _ _ _ _ rfl _ _ _ _ [] _ ["part"] _ (fun _ => [none]) _ _ rfl (@pi_list _ _ _ _ (@pe_bm _ _ _ _ _ _ _ _ _ _ _ _ PySem.F.plainAttrs_str PySem.F.slot_str_split PySem.F.type_str_split mt_split (pv 0) (@pa_cons _ _ _ _ _ (@pe_str _ _ _ _) (@pa_nil _) star_con) (by rfl) (by rfl) (by rfl) (by rfl) (by rfl))) (fun _ _ _ _ => pg_name (i := 0) (List.nodup_cons.mpr ⟨fun h => (nomatch h), List.nodup_nil⟩) rfl (Or.inl rfl) (.inr rfl)) (fun _ _ _ _ => (@pe_fnX _ _ _ _ _ _ _ _ _ _ _ _ _ _ _ _ _ T.read_ring (okx_read_ring T) hr (by decide) passB (@pa_cons _ _ _ _ _ (pv 0) (@pa_nil _) star_name) (by rfl) (by decide) (by rfl) (by rfl))) (closureFor_none (by decide +kernel)) rfl (by decide +kernel) (by decide +kernel) (fun _ _ h => by cases h) (noCells (by rfl)) (fun _ _ => rfl) (fun _ i _ _ _ h => by cases i with | zero => cases h | succ i => simp at h) (by intro _; rfl))))), ?_⟩
    rcases h with ⟨s, rfl, tx, k, kx⟩ | ⟨hd, v, d, rfl, hv, nd, kx⟩
    case inr => exact st_exprG (R := fun _ _ => False) (gv_call (sp := spx_check_text t) (pa_c (pu_v rfl) pa_n) fun Q f => .inr ⟨hd, v, d, rfl, hv, nd, kx _ Same.rfl'⟩) fun _ _ z => z.elim
    dsimp only at k kx
    refine st_exprG (R := fun v H' => H = H') (gv_call (sp := spx_check_text t) (pa_c (pu_v rfl) pa_n) fun Q f => .inl ⟨_, rfl, f _ _ rfl⟩) ?_
    rintro _ _ rfl
    have l1 := tx.2
    have l2 := split_count (x := s) (y := Str.ofString " | ") (one_len _ (by simp))
    refine st_retG (R := fun v H' => Q v H') (gv_compOf (gv_spl (pu_v rfl) pu_c tx (one_len _ (by simp))) ?_) fun _ _ z => z
    rintro _ _ ⟨p, hp, rfl, rfl⟩
    have s0 : Same H (upd H p (.lst ((Txt.split s (Str.ofString " | ")).map V.str))) := Same.upd hp
    have hpl : (upd H p (.lst ((Txt.split s (Str.ofString " | ")).map V.str))) p = some (.lst ((Txt.split s (Str.ofString " | ")).map V.str)) := upd_same
    have tok : ∀ q ∈ Txt.split s (Str.ofString " | "), TxOk q := fun q hq => split_ok tx hq
    have er : rRs s = allM rR (Txt.split s (Str.ofString " | ")) := rfl
    revert l2 s0 hpl tok er
    generalize upd H p (.lst ((Txt.split s (Str.ofString " | ")).map V.str)) = H1
    generalize Txt.split s (Str.ofString " | ") = ps
    intro l2 s0 hpl tok er
    cases hall : allM rR ps with
    | none =>
      obtain ⟨j, sj, ej, bj, gj⟩ := allM_none hall
      have hj : j < ps.length := (List.getElem?_eq_some_iff.mp ej).1
      refine (gv_compBad2 (fr := fun _ => [none]) (k := 0) (j := j) pu_c hpl (by rw [List.length_map]; omega) (by rw [List.length_map]; exact hj) (fun _ => KeepS.none1) ?_ ?_).imp fun _ _ z => z.elim
      · intro i x H' hi hx s'
        rw [List.getElem?_map] at hx
        cases ei : ps[i]? with
        | none => rw [ei] at hx; cases hx
        | some q =>
          rw [ei] at hx
          have e1 : V.str q = x := Option.some.inj hx
          subst e1
          obtain ⟨n, hn⟩ := gj i q hi ei
          exact gv_call (sp := spx_read_ring t) (pa_c (pu_v rfl) pa_n) fun Q q' => ⟨q, rfl, tok q (List.mem_of_getElem? ei), (fun m _ v H'' s'' _ => q' _ _ s''), fun z => by rw [hn] at z; cases z⟩
      · intro x H' hx s'
        rw [List.getElem?_map, ej] at hx
        have e1 : V.str sj = x := Option.some.inj hx
        subst e1
        exact gv_call (sp := spx_read_ring t) (pa_c (pu_v rfl) pa_n) fun Q q' => ⟨sj, rfl, tok sj (List.mem_of_getElem? ej), (fun m e => by rw [bj] at e; cases e), fun _ H'' s'' => kx (by rw [er, hall]; rfl) _ (s0.trans (s'.trans s''))⟩
    | some pts =>
      obtain ⟨nl, g⟩ := allM_some hall
      refine (gv_compRd (ds := pts.map dRg) (fr := fun _ => [none]) (k := 0) pu_c hpl (by rw [List.length_map]; omega) (fun _ => KeepS.none1) (by rw [List.length_map, List.length_map, nl]) ?_).imp ?_
      · intro i x d H' hx hd' s'
        rw [List.getElem?_map] at hx
        cases ei : ps[i]? with
        | none => rw [ei] at hx; cases hx
        | some q =>
          rw [ei] at hx
          have e1 : V.str q = x := Option.some.inj hx
          subst e1
          obtain ⟨n, hn, hq⟩ := g i q ei
          rw [List.getElem?_map, hn] at hd'
          have e2 : dRg n = d := Option.some.inj hd'
          subst e2
          exact gv_call (sp := spx_read_ring t) (pa_c (pu_v rfl) pa_n) fun Q q' => ⟨q, rfl, tok q (List.mem_of_getElem? ei), (fun m e v H'' s'' nw => by rw [hq] at e; cases e; exact q' _ _ ⟨s'', nw⟩), fun z => by rw [hq] at z; cases z⟩
      · rintro _ H2 ⟨s2, D, ys, rfl, fD, hD, hds⟩
        refine k (dRgs pts) (by rw [er, hall]; rfl) _ _ (s0.trans s2) fun hd hn => ?_
        have n1 : H1 hd ≠ none := fun z => hn (by
          cases c : H hd with
          | none => rfl
          | some o => rw [s0 _ _ c] at z; cases z)
        exact .lst hD (fun z => n1 (z ▸ fD)) (hds hd n1)
def spx_read_name (t : Adr) : Sp := fun vs H Q E => ∃ s, vs = [.str s] ∧ TxOk s ∧ (nameOk s = true → ∀ H', Same H H' → Q (.str s) H') ∧ (nameOk s = false → ∀ H', Same H H' → E (.ref t.c_NoText) none H')
theorem nAsc {x : Str} (h : nameOk x = true) : (∀ c ∈ x.cps.toList, c < 128) ∧ x.length ≤ 1000 := ⟨name_ascii h, Nat.le_trans (name_len h).2 (by decide)⟩
theorem shp_short {w : Str} {ks : List Kd} (h : shp w = some ks) : ((∀ c ∈ w.cps.toList, c < 128) ∧ w.length ≤ 1000) ∧ ks.length ≤ 2 := by
  have T : ∀ p ∈ shTab, ((∀ c ∈ p.1.cps.toList, c < 128) ∧ p.1.length ≤ 1000) ∧ p.2.length ≤ 2 := by decide +kernel
  unfold shp at h
  cases e : shTab.find? (fun p => p.1 == w) with
  | none => rw [e] at h; cases h
  | some p =>
    rw [e] at h
    have h' : p.2 = ks := Option.some.inj h
    have hm := List.mem_of_find?_eq_some e
    have hk := List.find?_some e
    have : p.1 = w := beq_iff_eq.mp hk
    subst this h'
    exact T p hm
theorem suf_trans {a b c : List Str} (h : ∃ p, a = p ++ b) (g : ∃ p, b = p ++ c) : ∃ p, a = p ++ c := by
  obtain ⟨p, rfl⟩ := h
  obtain ⟨q, rfl⟩ := g
  exact ⟨p ++ q, by rw [List.append_assoc]⟩
theorem pPart_suf {W : List Str → Option (D × List Str)} (hW : ∀ ws d r, W ws = some (d, r) → ∃ p, ws = p ++ r) : ∀ {k : Kd} {ws : List Str} {d : D} {r : List Str}, pPart W k ws = some (d, r) → ∃ p, ws = p ++ r
  | .wish, ws, d, r, h => hW ws d r h
  | .name, [], d, r, h => by cases h
  | .number, [], d, r, h => by cases h
  | .name, w :: ws, d, r, h => by
    simp only [pPart] at h
    split at h
    · cases h; exact ⟨[w], rfl⟩
    · cases h
  | .number, w :: ws, d, r, h => by
    simp only [pPart] at h
    cases e : rW w with
    | none => rw [e] at h; cases h
    | some n => rw [e] at h; cases h; exact ⟨[w], rfl⟩
theorem pParts_suf {W : List Str → Option (D × List Str)} (hW : ∀ ws d r, W ws = some (d, r) → ∃ p, ws = p ++ r) : ∀ {ks : List Kd} {ws : List Str} {ds : List D} {r : List Str}, pParts W ks ws = some (ds, r) → ∃ p, ws = p ++ r
  | [], ws, ds, r, h => by cases h; exact ⟨[], rfl⟩
  | k :: ks, ws, ds, r, h => by
    simp only [pParts] at h
    cases e : pPart W k ws with
    | none => rw [e] at h; cases h
    | some q =>
      obtain ⟨d, r1⟩ := q
      rw [e] at h
      simp only at h
      cases e2 : pParts W ks r1 with
      | none => rw [e2] at h; cases h
      | some q2 =>
        obtain ⟨ds', r'⟩ := q2
        rw [e2] at h
        cases h
        exact suf_trans (pPart_suf hW e) (pParts_suf hW e2)
theorem pW_suf : ∀ (n : Nat) (ws : List Str) (d : D) (r : List Str), pW n ws = some (d, r) → ∃ p, ws = p ++ r
  | 0, ws, d, r, h => by cases h
  | n + 1, [], d, r, h => by cases h
  | n + 1, w :: ws, d, r, h => by
    simp only [pW] at h
    cases e : shp w with
    | none => rw [e] at h; cases h
    | some ks =>
      rw [e] at h
      simp only at h
      cases e2 : pParts (pW n) ks ws with
      | none => rw [e2] at h; cases h
      | some q =>
        obtain ⟨ds, r'⟩ := q
        rw [e2] at h
        cases h
        obtain ⟨p, hp⟩ := pParts_suf (pW_suf n) e2
        exact ⟨w :: p, by rw [hp]; rfl⟩
theorem sc_read_name : FnScope ["text"] ["text"] (defScope s_read_name) := ⟨rfl, rfl, rfl, by decide +kernel, rfl, by decide +kernel, by decide +kernel⟩
theorem okx_read_name (T : Txt K mg t w) : FnOk P w K mg base (CXE P w) 2 t.f_read_name t.d_read_name ["text"] (spx_read_name t) := by
  refine T.read_name.F.okE (k := 1) sc_read_name (fun vs H Q E h => ?_) (fun cdv A outer s H vs Q E hr h => ?_)
  · obtain ⟨s, rfl, _⟩ := h
    rfl
  · obtain ⟨s, rfl, tx, k, kx⟩ := h
    refine ⟨_, (@pss_cons _ _ _ _ _ (@ps_if _ _ _ _ _ _ _ _ (@pt_not _ _ _ _ (@pt_val _ _ _ (@pe_fn _ _ _ _ _ _ _ _ _ _ _ _ _ _ T.is_name (ok_is_name T) hr (by decide) (@pa_cons _ _ _ _ _ (pv 0) (@pa_nil _) star_name) (by rfl) (by decide) (by rfl) (by rfl)) (by intro _; rfl))) (@pss_one _ _ _ (@ps_raise0 _ _ _ _ _ _ _ _ _ _ _ _ _ _ _ _ _ _ _ _ T.e_NoText T.m_NoText rfl (by decide))) (@pss_nil _)) (@pss_one _ _ _ (@ps_ret _ _ _ _ (pv 0)))), ?_⟩
    refine st_ifNG (gt_nb (b := nameOk s) (R := fun H' => Same H H') (gv_call (pa_c (pu_v rfl) pa_n) fun Q q => ⟨s, rfl, tx, fun H' s => q _ _ ⟨rfl, s⟩⟩)) (fun H1 e => kx (by simpa using e.1) _ e.2) fun H1 e => ?_
    exact st_ret (pu_v rfl) (k (by simpa using e.1) _ e.2)
def spx_wish_from (n : Nat) (t : Adr) : Sp := fun vs H Q E => ∃ (l : Addr) (ws : List Str), vs = [.ref l, .int (n : Int)] ∧ H l = some (.lst (ws.map V.str)) ∧ (∀ w ∈ ws, TxOk w) ∧ ws.length ≤ 50000 ∧
  (∀ d rest, pW n ws = some (d, rest) → ∀ a v r H', Same H H' → H' a = some (.tup [v, .ref r]) → (∀ hd, DAt hd H' v d) → H' r = some (.lst (rest.map V.str)) → H r = none → Q (.ref a) H') ∧ (pW n ws = none → ∀ H', Same H H' → E (.ref t.c_NoText) none H')
def spx_part_from (n : Nat) (t : Adr) : Sp := fun vs H Q E => ∃ (l : Addr) (kd : Kd) (ws : List Str), vs = [.str (kdS kd), .ref l, .int (n : Int)] ∧ H l = some (.lst (ws.map V.str)) ∧ (∀ w ∈ ws, TxOk w) ∧ ws.length ≤ 50000 ∧
  (∀ d rest, pPart (pW n) kd ws = some (d, rest) → ∀ a v r H', Same H H' → H' a = some (.tup [v, .ref r]) → (∀ hd, DAt hd H' v d) → H' r = some (.lst (rest.map V.str)) → H r = none → Q (.ref a) H') ∧ (pPart (pW n) kd ws = none → ∀ H', Same H H' → E (.ref t.c_NoText) none H')
theorem sc_wish_from : FnScope ["words", "depth", "shape", "parts", "rest", "kind", "found"] ["words", "depth"] (defScope s_wish_from) := ⟨rfl, rfl, rfl, by decide +kernel, rfl, by decide +kernel, by decide +kernel⟩
theorem sc_part_from : FnScope ["kind", "words", "depth", "part"] ["kind", "words", "depth"] (defScope s_part_from) := ⟨rfl, rfl, rfl, by decide +kernel, rfl, by decide +kernel, by decide +kernel⟩
theorem gv_if {σ : L2.St} {H : Hp} {tc : TT} {ta tb : TE} {b : Bool} {R : V → Hp → Prop} (hc : PuT tc σ H b) (h1 : b = true → Gv ta σ H R) (h2 : b = false → Gv tb σ H R) : Gv (tIf tc ta tb) σ H R := fun Q q => hc _ (by
  cases b with
  | true => exact h1 rfl Q q
  | false => exact h2 rfl Q q)
theorem kdS_ne : ∀ k, decide (kdS k = Str.ofString "wish") = decide (k = .wish) ∧ decide (kdS k = Str.ofString "name") = decide (k = .name) := by
  intro k
  cases k <;> decide +kernel
theorem okB_from (T : Txt K mg t w) {n k : Nat} (GW : FnOk P w K mg base (CXE P w) k t.f_wish_from t.d_wish_from ["words", "depth"] (spx_wish_from n t)) (hk : 6 ≤ k) : FnOk P w K mg base (CXE P w) (k + 1) t.f_part_from t.d_part_from ["kind", "words", "depth"] (spx_part_from n t) := by
  have okx_wish_from := fun (_ : Txt K mg t w) => GW
  refine T.part_from.F.okE (k := k) sc_part_from (fun vs H Q E h => ?_) (fun cdv A outer s H vs Q E hr h => ?_)
  · obtain ⟨l, kd, ws, rfl, _⟩ := h
    rfl
  · obtain ⟨l, kd, ws, rfl, hl, tk, hz, k1, k2⟩ := h
    refine ⟨_, (@pss_cons _ _ _ _ _ (@ps_if _ _ _ _ _ _ _ _ (@pt_cmpR _ _ _ _ _ _ _ _ op_eq (pv 0) (@pe_str _ _ _ _) (nomark _)) (@pss_one _ _ _ (@ps_ret _ _ _ _ (@pe_fnX _ _ _ _ _ _ _ _ _ _ _ _ _ _ _ _ _ T.wish_from (okx_wish_from T) hr (by omega) passX (@pa_cons _ _ _ _ _ (pv 1) (@pa_cons _ _ _ _ _ (pv 2) (@pa_nil _) star_name) star_name) (by rfl) (by decide) (by rfl) (by rfl)))) (@pss_nil _)) (@pss_cons _ _ _ _ _ (@ps_if _ _ _ _ _ _ _ _ (@pt_cmpR _ _ _ _ _ _ _ _ op_eq (@pe_callB _ _ _ _ _ _ _ _ _ call_len_seq (by rfl) T.b_len PySem.boot_len (@pa_cons _ _ _ _ _ (pv 1) (@pa_nil _) star_name) (by decide) (by decide) (by rfl) (by rfl)) (@pe_int _ _ _ _) (nomark _)) (@pss_one _ _ _ (@ps_raise0 _ _ _ _ _ _ _ _ _ _ _ _ _ _ _ _ _ _ _ _ T.e_NoText T.m_NoText rfl (by decide))) (@pss_nil _)) (@pss_cons _ _ _ _ _ (@ps_set _ _ 3 _ _ _ _ sc_part_from.nd rfl (Or.inl rfl) (@pe_ifExp _ _ _ _ _ _ _ _ (@pt_cmpR _ _ _ _ _ _ _ _ op_eq (pv 0) (@pe_str _ _ _ _) (nomark _)) (@pe_fnX _ _ _ _ _ _ _ _ _ _ _ _ _ _ _ _ _ T.read_name (okx_read_name T) hr (by omega) passX (@pa_cons _ _ _ _ _ (@pe_ix _ _ _ _ _ _ _ ix_list (pv 1) (@pe_int _ _ _ _) (fun _ _ => rfl)) (@pa_nil _) star_sub) (by rfl) (by decide) (by rfl) (by rfl)) (@pe_fnX _ _ _ _ _ _ _ _ _ _ _ _ _ _ _ _ _ T.read_whole (okx_read_whole T) hr (by omega) passX (@pa_cons _ _ _ _ _ (@pe_ix _ _ _ _ _ _ _ ix_list (pv 1) (@pe_int _ _ _ _) (fun _ _ => rfl)) (@pa_nil _) star_sub) (by rfl) (by decide) (by rfl) (by rfl))) (by rfl) (by first | exact .inl rfl | exact .inr rfl | assumption)) (@pss_one _ _ _ (@ps_ret _ _ _ _ (@pe_tup _ _ _ _ _ (@pa_cons _ _ _ _ _ (pv 3) (@pa_cons _ _ _ _ _ (@pe_slice _ _ _ _ _ _ _ _ _ _ sl_list (pv 1) (@po_some _ _ _ (@pe_int _ _ _ _)) (@po_none _)) (@pa_nil _) star_sub) star_name))))))), ?_⟩
    by_cases hw : kd = .wish
    · subst hw
      refine st_ifN (b := true) (pu_cast2 (pt_t (pu_eqStr (pu_v rfl) pu_c)) (by decide +kernel)) (fun _ => ?_) (fun e => by cases e)
      cases hp : pW n ws with
      | none => exact st_retG (R := fun _ _ => False) (gv_call (sp := spx_wish_from n t) (pa_c (pu_v rfl) (pa_c (pu_v rfl) pa_n)) fun Q q => ⟨l, ws, rfl, hl, tk, hz, (fun d r e => by rw [hp] at e; cases e), fun _ => k2 hp⟩) fun _ _ z => z.elim
      | some q0 =>
        obtain ⟨d, rest⟩ := q0
        exact st_retG (R := fun w H' => Q w H') (gv_call (sp := spx_wish_from n t) (pa_c (pu_v rfl) (pa_c (pu_v rfl) pa_n)) fun Q q => ⟨l, ws, rfl, hl, tk, hz, (fun d' r' e a v r H' s h1 h2 h3 h4 => q _ _ (k1 d' r' e a v r H' s h1 h2 h3 h4)), fun z => by rw [hp] at z; cases z⟩) fun _ _ z => z
    refine st_ifN (b := false) (pu_cast2 (pt_t (pu_eqStr (pu_v rfl) pu_c)) (by rw [(kdS_ne kd).1]; exact decide_eq_false hw)) (fun e => by cases e) (fun _ => ?_)
    cases ws with
    | nil =>
      refine st_ifN (b := true) (pt_t (pu_eqI (pu_lenL (pa_c (pu_v rfl) pa_n) (SqL.of hl)) pu_c)) (fun _ => ?_) (fun e => by cases e)
      refine k2 ?_ _ Same.rfl'
      cases kd with
      | wish => exact absurd rfl hw
      | name => rfl
      | number => rfl
    | cons x rest =>
      refine st_ifN (b := false) (pt_t (pu_cast (pu_eqI (pu_lenL (pa_c (pu_v rfl) pa_n) (SqL.of hl)) pu_c) (by rw [decide_eq_false]; simp; omega))) (fun e => by cases e) (fun _ => ?_)
      have L0 : ∀ {σ : L2.St} {H1 : Hp}, Same H H1 → σ[1]? = some (some (.ref l)) → Pu (tOp (rIxL K) (tVar 1) (tC (.int 0))) σ H1 (.str x) := fun s1 h1 => pu_ixL (pu_v h1) pu_c (SqL.of (s1 _ _ hl)) at0
      have tx := tk x (by simp)
      have fin : ∀ {v : V} {d : D} {H1 : Hp} {σ : L2.St}, pPart (pW n) kd (x :: rest) = some (d, rest) → Same H H1 → (∀ hd, DAt hd H1 v d) → σ[3]? = some (some v) → σ[1]? = some (some (.ref l)) → tTup (tCons (tVar 3) (tCons (tSl (rSlL K) (tVar 1) (tPart (tC (.int 1))) tNoPart) tNil)) σ H1 Q := fun {v d H1 σ} e s1 hv h3 h1 => by
        have hl1 := s1 _ _ hl
        refine gv_tupA (R := fun w H' => Q w H') (RA := fun vs H2 => ∃ r, H1 r = none ∧ vs = [v, .ref r] ∧ H2 = upd H1 r (.lst (((x :: rest).map V.str).drop 1))) (fun Q2 q2 => pu_v h3 _ (gv_from (k := 1) (pu_v h1) pu_c (SqL.of hl1) (by simp) _ fun w H2 z => ?_)) ?_ Q fun _ _ z => z
        · obtain ⟨r, hr', rfl, rfl⟩ := z
          exact q2 _ _ ⟨r, hr', rfl, rfl⟩
        · rintro _ _ ⟨r, hr', rfl, rfl⟩
          have s2 : Same H1 (upd H1 r (.lst (((x :: rest).map V.str).drop 1))) := Same.upd hr'
          refine ⟨len2, fun a ha => k1 d rest e a v r _ (s1.trans (s2.trans (Same.upd ha))) upd_same (fun hd => (hv hd).same (s2.trans (Same.upd ha))) ?_ (same_none s1 hr')⟩
          rw [upd_ne (ne_of_none upd_same ha), upd_same]
          rfl
      cases kd with
      | wish => exact absurd rfl hw
      | name =>
        cases nx : nameOk x with
        | true =>
          refine st_setG (R := fun v H' => v = .str x ∧ Same H H') (gv_if (b := true) (pu_cast2 (pt_t (pu_eqStr (pu_v rfl) pu_c)) (by decide +kernel)) (fun _ => gv_call (sp := spx_read_name t) (pa_c (L0 Same.rfl' rfl) pa_n) fun Q q => ⟨x, rfl, tx, fun _ H' s => q _ _ ⟨rfl, s⟩, fun z => by rw [nx] at z; cases z⟩) (fun e => by cases e)) ?_
          rintro _ H1 ⟨rfl, s1⟩
          exact fin (d := .str x) (by simp only [pPart]; rw [if_pos nx]) s1 (fun hd => .str x (nAsc nx)) rfl rfl
        | false => exact st_setG (R := fun _ _ => False) (gv_if (b := true) (pu_cast2 (pt_t (pu_eqStr (pu_v rfl) pu_c)) (by decide +kernel)) (fun _ => gv_call (sp := spx_read_name t) (pa_c (L0 Same.rfl' rfl) pa_n) fun Q q => ⟨x, rfl, tx, (fun z => by rw [nx] at z; cases z), fun _ => k2 (by simp only [pPart]; rw [if_neg (by rw [nx]; decide)])⟩) (fun e => by cases e)) fun _ _ z => z.elim
      | number =>
        cases nx : rW x with
        | some z =>
          refine st_setG (R := fun v H' => v = .int z ∧ Same H H') (gv_if (b := false) (pu_cast2 (pt_t (pu_eqStr (pu_v rfl) pu_c)) (by decide +kernel)) (fun e => by cases e) (fun _ => gv_call (sp := spx_read_whole t) (pa_c (L0 Same.rfl' rfl) pa_n) fun Q q => ⟨x, rfl, tx, (fun m e H' s => by rw [nx] at e; cases e; exact q _ _ ⟨rfl, s⟩), fun z => by rw [nx] at z; cases z⟩)) ?_
          rintro _ H1 ⟨rfl, s1⟩
          exact fin (d := .int z) (by simp only [pPart]; rw [nx]; rfl) s1 (fun hd => .int z) rfl rfl
        | none => exact st_setG (R := fun _ _ => False) (gv_if (b := false) (pu_cast2 (pt_t (pu_eqStr (pu_v rfl) pu_c)) (by decide +kernel)) (fun e => by cases e) (fun _ => gv_call (sp := spx_read_whole t) (pa_c (L0 Same.rfl' rfl) pa_n) fun Q q => ⟨x, rfl, tx, (fun m e => by rw [nx] at e; cases e), fun _ => k2 (by simp only [pPart]; rw [nx]; rfl)⟩)) fun _ _ z => z.elim
theorem pu_isN {σ : L2.St} {H : Hp} {ta tb : TE} {x : V} (ha : Pu ta σ H x) (hb : Pu tb σ H .non) : Pu (tOp (fun x y H Q => y = .non ∧ Q (.bl (decide (x = .non))) H) ta tb) σ H (.bl (decide (x = .non))) := fun _ q => ha _ (hb _ ⟨rfl, q⟩)
theorem okA_from (T : Txt K mg t w) {n k : Nat} {spP : Sp} (GP : FnOk P w K mg base (CXE P w) k t.f_part_from t.d_part_from ["kind", "words", "depth"] spP) (hk : 6 ≤ k) (hsp : ∀ m, n = m + 1 → spP = spx_part_from m t) : FnOk P w K mg base (CXE P w) (k + 1) t.f_wish_from t.d_wish_from ["words", "depth"] (spx_wish_from n t) := by
  have okx_part_from := fun (_ : Txt K mg t w) => GP
  refine T.wish_from.F.okE (k := k) sc_wish_from (fun vs H Q E h => ?_) (fun cdv A outer s H vs Q E hr h => ?_)
  · obtain ⟨l, ws, rfl, _⟩ := h
    rfl
  · obtain ⟨l, ws, rfl, hl, tk, hz, k1, k2⟩ := h
    refine ⟨_, (@pss_cons _ _ _ _ _ (@ps_set _ _ 2 _ _ _ _ sc_wish_from.nd rfl (Or.inl rfl) (@pe_ifExp _ _ _ _ _ _ _ _ (PW.pt (@pw_and _ _ _ _ _ _ _ (@pt_cmpR _ _ _ _ _ _ _ _ op_gt (@pe_callB _ _ _ _ _ _ _ _ _ call_len_seq (by rfl) T.b_len PySem.boot_len (@pa_cons _ _ _ _ _ (pv 0) (@pa_nil _) star_name) (by decide) (by decide) (by rfl) (by rfl)) (@pe_int _ _ _ _) (nomark _)) (@pw_and1 _ _ _ _ (@pt_cmpR _ _ _ _ _ _ _ _ op_gt (pv 1) (@pe_int _ _ _ _) (nomark _))))) (@pe_fn _ _ _ _ _ _ _ _ _ _ _ _ _ _ T.shape_of (ok_shape_of T) hr (by omega) (@pa_cons _ _ _ _ _ (@pe_ix _ _ _ _ _ _ _ ix_list (pv 0) (@pe_int _ _ _ _) (fun _ _ => rfl)) (@pa_nil _) star_sub) (by rfl) (by decide) (by rfl) (by rfl)) (@pe_non _ _ _)) (by rfl) (by first | exact .inl rfl | exact .inr rfl | assumption)) (@pss_cons _ _ _ _ _ (@ps_if _ _ _ _ _ _ _ _ (@pt_cmpR _ _ _ _ _ _ _ _ op_isN (pv 2) (@pe_non _ _ _) (nomark _)) (@pss_one _ _ _ (@ps_raise0 _ _ _ _ _ _ _ _ _ _ _ _ _ _ _ _ _ _ _ _ T.e_NoText T.m_NoText rfl (by decide))) (@pss_nil _)) (@pss_cons _ _ _ _ _ (@ps_set _ _ 3 _ _ _ _ sc_wish_from.nd rfl (Or.inl rfl) (@pe_lst _ _ _ _ (@pa_cons _ _ _ _ _ (@pe_ix _ _ _ _ _ _ _ ix_list (pv 0) (@pe_int _ _ _ _) (fun _ _ => rfl)) (@pa_nil _) star_sub)) (by rfl) (by first | exact .inl rfl | exact .inr rfl | assumption)) (@pss_cons _ _ _ _ _ (@ps_set _ _ 4 _ _ _ _ sc_wish_from.nd rfl (Or.inl rfl) (@pe_slice _ _ _ _ _ _ _ _ _ _ sl_list (pv 0) (@po_some _ _ _ (@pe_int _ _ _ _)) (@po_none _)) (by rfl) (by first | exact .inl rfl | exact .inr rfl | assumption)) (@pss_cons _ _ _ _ _ (@ps_forX _ _ _ _ _ _ _ _ _ _ _ _ _ _ _ _ rfl _ _ _ _ _ _ _ rfl (@pi_tup _ _ _ _ (pv 2)) (@pg_name _ _ 5 _ sc_wish_from.nd rfl (Or.inl rfl) (by first | exact .inl rfl | exact .inr rfl | assumption)) (@pss_cons _ _ _ _ _ (@ps_set _ _ 6 _ _ _ _ sc_wish_from.nd rfl (Or.inl rfl) (@pe_fnX _ _ _ _ _ _ _ _ _ _ _ _ _ _ _ _ _ T.part_from (okx_part_from T) hr (by omega) passO (@pa_cons _ _ _ _ _ (pv 5) (@pa_cons _ _ _ _ _ (pv 4) (@pa_cons _ _ _ _ _ (@pe_op _ _ _ _ _ _ _ _ op_sub (pv 1) (@pe_int _ _ _ _)) (@pa_nil _) star_bin) star_name) star_name) (by rfl) (by decide) (by rfl) (by rfl)) (by rfl) (by first | exact .inl rfl | exact .inr rfl | assumption)) (@pss_cons _ _ _ _ _ (@ps_expr _ _ _ _ (@pe_bm _ _ _ _ _ _ _ _ _ _ _ _ PySem.F.plainAttrs_list PySem.F.slot_list_append PySem.F.type_list_append mt_append (pv 3) (@pa_cons _ _ _ _ _ (@pe_ix _ _ _ _ _ _ _ ix_tup (pv 6) (@pe_int _ _ _ _) (fun _ _ => rfl)) (@pa_nil _) star_sub) (by rfl) (by rfl) (by rfl) (by rfl) (by rfl)) (by rfl)) (@pss_one _ _ _ (@ps_set _ _ 4 _ _ _ _ sc_wish_from.nd rfl (Or.inl rfl) (@pe_ix _ _ _ _ _ _ _ ix_tup (pv 6) (@pe_int _ _ _ _) (fun _ _ => rfl)) (by rfl) (by first | exact .inl rfl | exact .inr rfl | assumption))))) (by intro _; rfl)) (@pss_one _ _ _ (@ps_ret _ _ _ _ (@pe_tup _ _ _ _ _ (@pa_cons _ _ _ _ _ (@pe_callTy _ _ _ _ _ _ _ _ _ call_tuple_of (by rfl) T.b_tuple PyProof.Rows.boot_tuple (@pa_cons _ _ _ _ _ (pv 3) (@pa_nil _) star_name) (by decide) (by decide) (by rfl) (by rfl)) (@pa_cons _ _ _ _ _ (pv 4) (@pa_nil _) star_name) star_call))))))))), ?_⟩
    have LG : ∀ {σ : L2.St}, σ[0]? = some (some (.ref l)) → Pu (tOp (rI0 fun i j => .bl (decide (i > j))) (tCB (fun xs H Q => ∃ p ys, xs = [.ref p] ∧ (SqL K H p ys ∨ SqT K H p ys) ∧ Q (.int ys.length) H) (tCons (tVar 0) tNil)) (tC (.int 0))) σ H (.bl (decide (0 < ws.length))) := fun {σ} h0 => pu_cast (pu_gt (pu_lenL (pa_c (pu_v h0) pa_n) (SqL.of hl)) pu_c) (by rw [List.length_map]; congr 1; rw [decide_eq_decide]; omega)
    cases ws with
    | nil =>
      have en : pW n [] = none := by cases n <;> rfl
      refine st_set (v := .non) (pu_ifE (b := false) (pt_and (b := false) (c := false) (pu_cast2 (pt_t (LG rfl)) (by simp)) (fun e => by cases e)) (fun e => by cases e) fun _ => pu_c) ?_
      refine st_ifN (b := true) (pt_t (pu_cast (pu_isN (pu_v rfl) pu_c) (by simp))) (fun _ => ?_) (fun e => by cases e)
      exact k2 en _ Same.rfl'
    | cons x r0 =>
    cases n with
    | zero =>
      refine st_set (v := .non) (pu_ifE (b := false) (pt_and (b := true) (c := false) (pu_cast2 (pt_t (LG rfl)) (by simp)) fun _ => pt_t (pu_cast (pu_gt (pu_v rfl) pu_c) (by simp))) (fun e => by cases e) fun _ => pu_c) ?_
      refine st_ifN (b := true) (pt_t (pu_cast (pu_isN (pu_v rfl) pu_c) (by simp))) (fun _ => ?_) (fun e => by cases e)
      exact k2 rfl _ Same.rfl'
    | succ n =>
    have e := hsp n rfl
    subst e
    cases hsh : shp x with
    | none =>
      have en : pW (n + 1) (x :: r0) = none := by simp only [pW, hsh]
      refine st_setG (R := fun v H' => v = .non ∧ H = H') (gv_if (b := true) (pt_and (b := true) (c := true) (pu_cast2 (pt_t (LG rfl)) (by simp)) fun _ => pt_t (pu_cast (pu_gt (pu_v rfl) pu_c) (by rw [decide_eq_true]; omega))) (fun _ => gv_call (pa_c (pu_ixL (pu_v rfl) pu_c (SqL.of hl) at0) pa_n) fun Q q => ⟨x, rfl, (fun _ => q _ _ ⟨rfl, rfl⟩), fun ks' a e _ => by rw [hsh] at e; cases e⟩) (fun e => by cases e)) ?_
      rintro _ _ ⟨rfl, rfl⟩
      refine st_ifN (b := true) (pt_t (pu_cast (pu_isN (pu_v rfl) pu_c) (by simp))) (fun _ => ?_) (fun e => by cases e)
      exact k2 en _ Same.rfl'
    | some ks =>
    have ep : pW (n + 1) (x :: r0) = match pParts (pW n) ks r0 with
      | none => none
      | some (ds, r') => some (.tup (.str x :: ds), r') := by simp only [pW, hsh] <;> rfl
    obtain ⟨xs4, ks2⟩ := shp_short hsh
    refine st_setG (R := fun v H' => H = H' ∧ ∃ a0, v = .ref a0 ∧ ∀ H', SqT K H' a0 (ks.map fun k => V.str (kdS k))) (gv_if (b := true) (pt_and (b := true) (c := true) (pu_cast2 (pt_t (LG rfl)) (by simp)) fun _ => pt_t (pu_cast (pu_gt (pu_v rfl) pu_c) (by rw [decide_eq_true]; omega))) (fun _ => gv_call (pa_c (pu_ixL (pu_v rfl) pu_c (SqL.of hl) at0) pa_n) fun Q q => ⟨x, rfl, (fun e => by rw [hsh] at e; cases e), fun ks' a e sq => by rw [hsh] at e; cases e; exact q _ _ ⟨rfl, a, rfl, sq⟩⟩) (fun e => by cases e)) ?_
    rintro _ _ ⟨rfl, a0, rfl, sq⟩
    refine st_ifN (b := false) (pt_t (pu_cast (pu_isN (pu_v rfl) pu_c) (by simp))) (fun e => by cases e) (fun _ => ?_)
    refine st_setG (gv_lst (pa_c (pu_ixL (pu_v rfl) pu_c (SqL.of hl) at0) pa_n) (by show 1 ≤ sizeLine; decide)) ?_
    rintro _ _ ⟨lp, hlp, rfl, rfl⟩
    have s1 : Same H (upd H lp (.lst [.str x])) := Same.upd hlp
    refine st_setG (gv_from (k := 1) (pu_v rfl) pu_c (SqL.of (s1 _ _ hl)) (by simp)) ?_
    rintro _ _ ⟨ra, hra, rfl, rfl⟩
    have s2 := s1.trans (Same.upd (o := .lst (((x :: r0).map V.str).drop 1)) hra)
    have nlr : lp ≠ ra := ne_of_none upd_same hra
    have p1 : (upd (upd H lp (.lst [.str x])) ra (.lst (((x :: r0).map V.str).drop 1))) lp = some (.lst [.str x]) := by rw [upd_ne nlr, upd_same]
    have p2 : (upd (upd H lp (.lst [.str x])) ra (.lst (((x :: r0).map V.str).drop 1))) ra = some (.lst (r0.map V.str)) := upd_same
    revert s2 p1 p2
    generalize upd (upd H lp (.lst [.str x])) ra (.lst (((x :: r0).map V.str).drop 1)) = H1
    intro s2 p1 p2
    refine st_tupl (K := K) (xs := ks.map fun k => V.str (kdS k)) (pu_v rfl) (fun i σ H' => Same H H' ∧ ∃ (ds : List D) (ri : List Str), ds.length = i ∧ (∃ p, r0 = p ++ ri) ∧ (pParts (pW n) ks r0 = match pParts (pW n) (ks.drop i) ri with | none => none | some (ds', r') => some (ds ++ ds', r')) ∧ (∃ xs, H' lp = some (.lst (.str x :: xs)) ∧ ∀ hd, DsAt hd H' xs ds) ∧ ∃ (r : Addr) (y z : Option V), r ≠ lp ∧ H r = none ∧ H' r = some (.lst (ri.map V.str)) ∧ σ = [some (.ref l), some (.int ((n + 1 : Nat) : Int)), some (.ref a0), some (.ref lp), some (.ref r), y, z]) ⟨s2, [], r0, rfl, ⟨[], rfl⟩, (by rw [List.drop_zero]; cases pParts (pW n) ks r0 with | none => rfl | some q => rfl), ⟨[], p1, fun hd => .nil⟩, ra, none, none, nlr.symm, same_none s1 hra, p2, rfl⟩ (fun i σ H' _ _ => sq H') ?_ ?_
    · rintro i y σ H2 hy ⟨s2', ds, ri, dl, suf, lk, ⟨xs, hlp2, tds⟩, r, x', y', nr, frr, hr2, rfl⟩
      rw [List.getElem?_map] at hy
      cases hki : ks[i]? with
      | none => rw [hki] at hy; cases hy
      | some kd =>
        rw [hki] at hy
        have e1 : V.str (kdS kd) = y := Option.some.inj hy
        subst e1
        have hi : i < ks.length := (List.getElem?_eq_some_iff.mp hki).1
        have dr : ks.drop i = kd :: ks.drop (i + 1) := by
          rw [List.drop_eq_getElem_cons hi]
          congr 1
          exact (List.getElem?_eq_some_iff.mp hki).2
        obtain ⟨pre, hpre⟩ := suf
        have tki : ∀ w ∈ ri, TxOk w := fun w hw => tk w (by rw [hpre]; simp [hw])
        have hzi : ri.length ≤ 50000 := by
          rw [hpre] at hz
          simp at hz
          omega
        have AR : ∀ {σ : L2.St}, σ[5]? = some (some (.str (kdS kd))) → σ[4]? = some (some (.ref r)) → σ[1]? = some (some (.int ((n + 1 : Nat) : Int))) → PuA (tCons (tVar 5) (tCons (tVar 4) (tCons (tOp (rI0 fun i j => .int (i - j)) (tVar 1) (tC (.int 1))) tNil))) σ H2 [.str (kdS kd), .ref r, .int (n : Int)] := fun h5 h4 h1 => pa_c (pu_v h5) (pa_c (pu_v h4) (pa_c (pu_cast (pu_sub (pu_v h1) pu_c) (by congr 1; omega)) pa_n))
        rw [dr] at lk
        simp only [pParts] at lk
        cases hpp : pPart (pW n) kd ri with
        | none =>
          rw [hpp] at lk
          have en : pW (n + 1) (x :: r0) = none := by rw [ep, lk]
          exact st_setG (R := fun _ _ => False) (gv_call (sp := spx_part_from n t) (AR rfl rfl rfl) fun Q q => ⟨r, kd, ri, rfl, hr2, tki, hzi, (fun d rr e => by rw [hpp] at e; cases e), fun _ H' s' => k2 en H' (s2'.trans s')⟩) fun _ _ z => z.elim
        | some q0 =>
          obtain ⟨d, r1⟩ := q0
          rw [hpp] at lk
          simp only at lk
          refine st_setG (R := fun w H' => ∃ a v r', w = .ref a ∧ Same H2 H' ∧ H' a = some (.tup [v, .ref r']) ∧ (∀ hd, DAt hd H' v d) ∧ H' r' = some (.lst (r1.map V.str)) ∧ H2 r' = none) (gv_call (sp := spx_part_from n t) (AR rfl rfl rfl) fun Q q => ⟨r, kd, ri, rfl, hr2, tki, hzi, (fun d' rr e a v r' H' s' h1 h2 h3 h4 => by rw [hpp] at e; cases e; exact q _ _ ⟨a, v, r', rfl, s', h1, h2, h3, h4⟩), fun z => by rw [hpp] at z; cases z⟩) ?_
          rintro _ H3 ⟨a, v, r', rfl, s3, ha, hv, hr', fr'⟩
          have hlp3 := s3 _ _ hlp2
          refine st_app (pu_v rfl) hlp3 (Pu.gv (v := v) (pu_ixT (pu_v rfl) pu_c (SqT.of ha) rfl)) ?_
          rintro v H3 ⟨rfl, rfl⟩
          have xl : xs.length = i := by rw [(tds 0).len, dl]
          refine ⟨_, hlp3, ?_, ?_⟩
          · rw [List.length_cons, xl]
            exact Nat.lt_of_lt_of_le (show i + 1 < 1000 by omega) (by decide)
          have na : a ≠ lp := ne_of ha hlp3 (by intro z; cases z)
          have sb : SameB lp H3 (upd H3 lp (.lst (V.str x :: xs ++ [v]))) := SameB.upd
          have nr' : r' ≠ lp := fun z => by rw [z, hlp2] at fr'; cases fr'
          refine st_set1 (pu_ixT (pu_v rfl) pu_c (SqT.of (sb _ _ ha na)) rfl) ?_
          refine ⟨same_updNew (s2'.trans s3) hlp, ds ++ [d], r1, by simp [dl], suf_trans ⟨pre, hpre⟩ (pPart_suf (pW_suf n) hpp), ?_, ⟨xs ++ [v], upd_same, fun hd => DsAt.snoc' (DsAt.butD hlp3 sb ((tds hd).same s3) ((tds lp).same s3)) (DAt.butD hlp3 sb (hv hd) (hv lp))⟩, r', _, _, nr', same_none s2' fr', ?_, rfl⟩
          · rw [lk]
            cases pParts (pW n) (ks.drop (i + 1)) r1 with
            | none => rfl
            | some q => simp
          · rw [upd_ne nr']
            exact hr'
    · rintro σ H2 ⟨s2', ds, ri, dl, suf, lk, ⟨xs, hlp2, tds⟩, r, x', y', nr, frr, hr2, rfl⟩
      rw [List.length_map, List.drop_length] at lk
      have lk' : pParts (pW n) ks r0 = some (ds, ri) := by rw [lk]; simp [pParts]
      have en : pW (n + 1) (x :: r0) = some (.tup (.str x :: ds), ri) := by rw [ep, lk']
      refine st_retG (R := fun w H' => Q w H') (gv_tupA (RA := fun vs H' => ∃ p, H2 p = none ∧ vs = [.ref p, .ref r] ∧ H' = upd H2 p (.tup (.str x :: xs))) (fun Q2 q2 => gv_cb1 (R' := fun w H' => ∃ p, H2 p = none ∧ w = .ref p ∧ H' = upd H2 p (.tup (.str x :: xs))) (Pu.gv (v := .ref lp) (pu_v rfl)) ?_ _ ?_) ?_) fun _ _ z => z
      · intro v3 H4 e Q3 q3
        obtain ⟨e1, e2⟩ := e
        subst e1
        subst e2
        exact ⟨lp, _, rfl, .inl ⟨SqL.of hlp2, fun p hp => q3 _ _ ⟨p, hp, rfl, rfl⟩⟩⟩
      · rintro _ _ ⟨p, hp, rfl, rfl⟩
        exact (pu_v rfl : Pu (tVar 4) _ _ (.ref r)) _ (q2 _ _ ⟨p, hp, rfl, rfl⟩)
      · rintro _ _ ⟨p, hp, rfl, rfl⟩
        refine ⟨len2, fun a ha => ?_⟩
        have s5 : Same H2 (upd (upd H2 p (.tup (.str x :: xs))) a (.tup [.ref p, .ref r])) := (Same.upd hp).trans (Same.upd ha)
        refine k1 _ _ en a (.ref p) r _ (s2'.trans s5) upd_same (fun hd => ?_) (s5 _ _ hr2) frr
        exact .tup (Same.upd ha _ _ upd_same) (.cons (.str x xs4) ((tds hd).same s5))
theorem okr_from (T : Txt K mg t w) : ∀ n : Nat, FnOk P w K mg base (CXE P w) (8 + 2 * n) t.f_wish_from t.d_wish_from ["words", "depth"] (spx_wish_from n t)
  | 0 => okA_from T (k := 7) (spP := spNo) (T.part_from.F.okE (k := 6) sc_part_from (fun _ _ _ _ h => h.elim) fun _ _ _ _ _ _ _ _ _ h => h.elim) (by decide) (fun m e => by cases e)
  | n + 1 => (okA_from T (k := 9 + 2 * n) ((okB_from T (okr_from T n) (by omega)).mono (by omega)) (by omega) (fun m e => by cases e; rfl)).mono (by omega)
theorem okx_wish_from (T : Txt K mg t w) : FnOk P w K mg base (CXE P w) 20 t.f_wish_from t.d_wish_from ["words", "depth"] (spx_wish_from 6 t) := okr_from T 6
def spx_read_wish (t : Adr) : Sp := RdSp t rWi
theorem sc_read_wish : FnScope ["text", "found"] ["text"] (defScope s_read_wish) := ⟨rfl, rfl, rfl, by decide +kernel, rfl, by decide +kernel, by decide +kernel⟩
theorem okx_read_wish (T : Txt K mg t w) : FnOk P w K mg base (CXE P w) 21 t.f_read_wish t.d_read_wish ["text"] (spx_read_wish t) := by
  refine T.read_wish.F.okE (k := 20) sc_read_wish (fun vs H Q E h => ?_) (fun cdv A outer s H vs Q E hr h => ?_)
  · exact h.len
  · refine ⟨_, (@pss_cons _ _ _ _ _ (@ps_expr _ _ _ _ (@pe_fnX _ _ _ _ _ _ _ _ _ _ _ _ _ _ _ _ _ T.check_text (okx_check_text T) hr (by decide) passX (@pa_cons _ _ _ _ _ (pv 0) (@pa_nil _) star_name) (by rfl) (by decide) (by rfl) (by rfl)) (by rfl)) (@pss_cons _ _ _ _ _ (@ps_set _ _ 1 _ _ _ _ sc_read_wish.nd rfl (Or.inl rfl) (@pe_fnX _ _ _ _ _ _ _ _ _ _ _ _ _ _ _ _ _ T.wish_from (okx_wish_from T) hr (by decide) passX (@pa_cons _ _ _ _ _ (@pe_bm _ _ _ _ _ _ _ _ _ _ _ _ PySem.F.plainAttrs_str PySem.F.slot_str_split PySem.F.type_str_split mt_split (pv 0) (@pa_cons _ _ _ _ _ (@pe_str _ _ _ _) (@pa_nil _) star_con) (by rfl) (by rfl) (by rfl) (by rfl) (by rfl)) (@pa_cons _ _ _ _ _ (@pe_konI _ _ _ _ T.k_DEEPEST (by rfl) (by decide)) (@pa_nil _) star_name) star_call) (by rfl) (by decide) (by rfl) (by rfl)) (by rfl) (by first | exact .inl rfl | exact .inr rfl | assumption)) (@pss_cons _ _ _ _ _ (@ps_if _ _ _ _ _ _ _ _ (@pt_cmpR _ _ _ _ _ _ _ _ op_gt (@pe_callB _ _ _ _ _ _ _ _ _ call_len_seq (by rfl) T.b_len PySem.boot_len (@pa_cons _ _ _ _ _ (@pe_ix _ _ _ _ _ _ _ ix_tup (pv 1) (@pe_int _ _ _ _) (fun _ _ => rfl)) (@pa_nil _) star_sub) (by decide) (by decide) (by rfl) (by rfl)) (@pe_int _ _ _ _) (nomark _)) (@pss_one _ _ _ (@ps_raise0 _ _ _ _ _ _ _ _ _ _ _ _ _ _ _ _ _ _ _ _ T.e_NoText T.m_NoText rfl (by decide))) (@pss_nil _)) (@pss_one _ _ _ (@ps_ret _ _ _ _ (@pe_ix _ _ _ _ _ _ _ ix_tup (pv 1) (@pe_int _ _ _ _) (fun _ _ => rfl))))))), ?_⟩
    rcases h with ⟨s, rfl, tx, k, kx⟩ | ⟨hd, v, d, rfl, hv, nd, kx⟩
    case inr => exact st_exprG (R := fun _ _ => False) (gv_call (sp := spx_check_text t) (pa_c (pu_v rfl) pa_n) fun Q f => .inr ⟨hd, v, d, rfl, hv, nd, kx _ Same.rfl'⟩) fun _ _ z => z.elim
    refine st_exprG (R := fun v H' => H = H') (gv_call (sp := spx_check_text t) (pa_c (pu_v rfl) pa_n) fun Q f => .inl ⟨_, rfl, f _ _ rfl⟩) ?_
    rintro _ _ rfl
    have l1 := tx.2
    have l2 := split_count (x := s) (y := Str.ofString " ") (one_len _ (by simp))
    have tok : ∀ q ∈ Txt.split s (Str.ofString " "), TxOk q := fun q hq => split_ok tx hq
    have er : rWi s = match pW 6 (Txt.split s (Str.ofString " ")) with
      | some (d, []) => some d
      | _ => none := rfl
    cases hp : pW 6 (Txt.split s (Str.ofString " ")) with
    | none =>
      refine st_setG (R := fun _ _ => False) (gv_callA (ga_cons (gv_spl (pu_v rfl) pu_c tx (one_len _ (by simp))) fun _ _ _ => ga_cons (Pu.gv (v := .int 6) pu_c) fun _ _ _ => ga_nil) ?_) fun _ _ z => z.elim
      rintro _ H1 ⟨_, _, _, rfl, ⟨p, hp0, rfl, rfl⟩, _, _, _, rfl, ⟨rfl, rfl⟩, rfl, rfl⟩ Q q
      exact ⟨p, _, rfl, upd_same, tok, by omega, (fun d r e => by rw [hp] at e; cases e), fun _ H' s' => kx (by rw [er, hp]) _ ((Same.upd hp0).trans s')⟩
    | some q0 =>
      obtain ⟨d, rest⟩ := q0
      refine st_setG (R := fun w H' => ∃ a v r, w = .ref a ∧ Same H H' ∧ H' a = some (.tup [v, .ref r]) ∧ (∀ hd, DAt hd H' v d) ∧ H' r = some (.lst (rest.map V.str))) (gv_callA (ga_cons (gv_spl (pu_v rfl) pu_c tx (one_len _ (by simp))) fun _ _ _ => ga_cons (Pu.gv (v := .int 6) pu_c) fun _ _ _ => ga_nil) ?_) ?_
      · rintro _ H1 ⟨_, _, _, rfl, ⟨p, hp0, rfl, rfl⟩, _, _, _, rfl, ⟨rfl, rfl⟩, rfl, rfl⟩ Q q
        exact ⟨p, _, rfl, upd_same, tok, by omega, (fun d' r' e a v r H' s' h1 h2 h3 _ => by rw [hp] at e; cases e; exact q _ _ ⟨a, v, r, rfl, (Same.upd hp0).trans s', h1, h2, h3⟩), fun z => by rw [hp] at z; cases z⟩
      rintro _ H1 ⟨a, v, r, rfl, s1, ha, hv, hr'⟩
      cases rest with
      | nil =>
        refine st_ifN (b := false) (pt_t (pu_gt (pu_lenL (pa_c (pu_ixT (pu_v rfl) pu_c (SqT.of ha) at1) pa_n) (SqL.of hr')) pu_c)) (fun e => by cases e) (fun _ => ?_)
        exact st_ret (pu_ixT (pu_v rfl) pu_c (SqT.of ha) at0) (k d (by rw [er, hp]) _ _ s1 fun hd _ => hv hd)
      | cons w rest =>
        refine st_ifN (b := true) (pt_t (pu_cast (pu_gt (pu_lenL (pa_c (pu_ixT (pu_v rfl) pu_c (SqT.of ha) at1) pa_n) (SqL.of hr')) pu_c) (by rw [decide_eq_true]; simp <;> omega))) (fun _ => ?_) (fun e => by cases e)
        exact kx (by rw [er, hp]) _ s1
def sp_l_hand (K : PySem.W.Frag) : Sp := fun vs H Q _ => ∃ (a : Addr) (ns : List Int), vs = [.ref a] ∧ SqL K H a (ns.map V.int) ∧ ∀ hd sc H', Same H H' → H hd = none → HandAt H' hd sc → Q (.ref hd) H'
theorem sc_l_hand : FnScope ["_law_script"] ["_law_script"] (defScope s_l_hand) := ⟨rfl, rfl, rfl, by decide +kernel, rfl, by decide +kernel, by decide +kernel⟩
theorem ok_l_hand (T : Txt K mg t w) : FnOk P w K mg base CX0 1 t.f_l_hand t.d_l_hand ["_law_script"] (sp_l_hand K) := by
  refine T.l_hand.F.ok (k := 0) sc_l_hand (fun vs H Q E h => ?_) (fun cdv A outer s H vs Q E hr h => ?_)
  · obtain ⟨a, ns, rfl, _⟩ := h
    rfl
  · obtain ⟨a, ns, rfl, hS, k⟩ := h
    refine ⟨_, (@pss_one _ _ _ (@ps_ret _ _ _ _ (@pe_lst _ _ _ _ (@pa_cons _ _ _ _ _ (@pe_callTy _ _ _ _ _ _ _ _ _ call_list_of (by rfl) T.b_list PyProof.Rows.boot_list (@pa_cons _ _ _ _ _ (@pe_slice _ _ _ _ _ _ _ _ _ _ sl_list (pv 0) (@po_none _) (@po_some _ _ _ (@pe_int _ _ _ _))) (@pa_nil _) star_sub) (by decide) (by decide) (by rfl) (by rfl)) (@pa_cons _ _ _ _ _ (@pe_int _ _ _ _) (@pa_cons _ _ _ _ _ (@pe_int _ _ _ _) (@pa_cons _ _ _ _ _ (@pe_int _ _ _ _) (@pa_cons _ _ _ _ _ (@pe_int _ _ _ _) (@pa_cons _ _ _ _ _ (@pe_int _ _ _ _) (@pa_nil _) star_con) star_con) star_con) star_con) star_con) star_call)))), ?_⟩
    refine ⟨_, rfl, 63, rfl, a, _, rfl, hS, fun p hp => ?_⟩
    refine ⟨p, _, rfl, .inl (SqL.of upd_same), fun l hl => ⟨by show 6 ≤ sizeLine; decide, fun hd hh => ?_⟩⟩
    have s1 : Same H (upd H p (.lst (cutV (ns.map V.int) none (some 63)))) := Same.upd hp
    have s2 : Same (upd H p (.lst (cutV (ns.map V.int) none (some 63)))) _ := Same.upd (o := .lst (cutV (ns.map V.int) none (some 63))) hl
    have s3 := s1.trans (s2.trans (Same.upd (o := .lst [.ref l, .int 0, .int 0, .int 0, .int 20011, .int 40009]) hh))
    refine k hd l _ s3 (s1.free (s2.free hh)) ⟨(ns.drop (HT.sIx (ns.map V.int).length 0 none)).take (HT.sIx (ns.map V.int).length (ns.map V.int).length (some 63) - HT.sIx (ns.map V.int).length 0 none), 0, 0, 0, 20011, 40009, upd_same, ?_, by decide⟩
    rw [upd_ne (ne_of_none upd_same hh), upd_same, List.map_take, List.map_drop]
    rfl
def sp_l_next : Sp := fun vs H Q _ => ∃ hd sc, vs = [.ref hd] ∧ HandAt H hd sc ∧ ∀ (n : Int) H', HandAt H' hd sc → SameB hd H H' → Q (.int n) H'
theorem sc_l_next : FnScope ["_law_hand_here"] ["_law_hand_here"] (defScope s_l_next) := ⟨rfl, rfl, rfl, by decide +kernel, rfl, by decide +kernel, by decide +kernel⟩
theorem ok_l_next (T : Txt K mg t w) : FnOk P w K mg base CX0 1 t.f_l_next t.d_l_next ["_law_hand_here"] sp_l_next := by
  refine T.l_next.F.ok (k := 0) sc_l_next (fun vs H Q E h => ?_) (fun cdv A outer s H vs Q E hr h => ?_)
  · obtain ⟨hd, sc, rfl, _⟩ := h
    rfl
  · obtain ⟨hd, sc, rfl, ⟨ns, i, b, c, p, q, h1, h2, h0⟩, k⟩ := h
    have nsc := HandAt.ne h1 h2
    refine ⟨_, (@pss_cons _ _ _ _ _ (@ps_asg _ _ _ _ _ _ (@pe_op _ _ _ _ _ _ _ _ op_modN (@pe_op _ _ _ _ _ _ _ _ op_mulB (@pe_ix _ _ _ _ _ _ _ ix_list (pv 0) (@pe_int _ _ _ _) (fun _ _ => rfl)) (@pe_int _ _ _ _)) (@pe_int _ _ _ _)) (@pg_sub _ _ _ _ _ _ _ (pv 0) (@pe_int _ _ _ _) set_list (by intro _; rfl)) (by rfl) (by rfl) (by rfl)) (@pss_cons _ _ _ _ _ (@ps_asg _ _ _ _ _ _ (@pe_op _ _ _ _ _ _ _ _ op_modN (@pe_op _ _ _ _ _ _ _ _ op_mulB (@pe_ix _ _ _ _ _ _ _ ix_list (pv 0) (@pe_int _ _ _ _) (fun _ _ => rfl)) (@pe_int _ _ _ _)) (@pe_int _ _ _ _)) (@pg_sub _ _ _ _ _ _ _ (pv 0) (@pe_int _ _ _ _) set_list (by intro _; rfl)) (by rfl) (by rfl) (by rfl)) (@pss_one _ _ _ (@ps_ret _ _ _ _ (@pe_op _ _ _ _ _ _ _ _ op_add (@pe_ix _ _ _ _ _ _ _ ix_list (pv 0) (@pe_int _ _ _ _) (fun _ _ => rfl)) (@pe_ix _ _ _ _ _ _ _ ix_list (pv 0) (@pe_int _ _ _ _) (fun _ _ => rfl))))))), ?_⟩
    refine st_put (pu_mod (pu_mul (pu_ixL (pu_v rfl) pu_c (SqL.of h1) rfl) pu_c (IntMulOk.of_right (by decide))) pu_c (by decide)) (pu_v rfl) pu_c h1 rfl ?_
    refine st_put (pu_mod (pu_mul (pu_ixL (pu_v rfl) pu_c (SqL.of upd_same) rfl) pu_c (IntMulOk.of_right (by decide))) pu_c (by decide)) (pu_v rfl) pu_c upd_same rfl ?_
    refine st_ret (pu_add (pu_ixL (pu_v rfl) pu_c (SqL.of upd_same) rfl) (pu_ixL (pu_v rfl) pu_c (SqL.of upd_same) rfl)) ?_
    exact k _ _ ⟨ns, i, b, c, _, _, upd_same, by rw [upd_ne nsc, upd_ne nsc]; exact h2, h0⟩ (SameB.upd.trans SameB.upd)
def sp_l_take : Sp := fun vs H Q _ => ∃ hd sc, vs = [.ref hd] ∧ HandAt H hd sc ∧ ∀ H', HandAt H' hd sc → SameB hd H H' → Q .non H'
theorem sc_l_take : FnScope ["_law_hand_here", "_law_cell"] ["_law_hand_here"] (defScope s_l_take) := ⟨rfl, rfl, rfl, by decide +kernel, rfl, by decide +kernel, by decide +kernel⟩
theorem ok_l_take (T : Txt K mg t w) : FnOk P w K mg base CX0 2 t.f_l_take t.d_l_take ["_law_hand_here"] sp_l_take := by
  refine T.l_take.F.ok (k := 1) sc_l_take (fun vs H Q E h => ?_) (fun cdv A outer s H vs Q E hr h => ?_)
  · obtain ⟨hd, sc, rfl, _⟩ := h
    rfl
  · obtain ⟨hd, sc, rfl, ⟨ns, i, b, c, p, q, h1, h2, h0⟩, k⟩ := h
    have nsc := HandAt.ne h1 h2
    refine ⟨_, (@pss_cons _ _ _ _ _ (@ps_set _ _ 1 _ _ _ _ sc_l_take.nd rfl (Or.inl rfl) (@pe_int _ _ _ _) (by rfl) (by first | exact .inl rfl | exact .inr rfl | assumption)) (@pss_cons _ _ _ _ _ (@ps_if _ _ _ _ _ _ _ _ (@pt_cmpR _ _ _ _ _ _ _ _ op_lt (@pe_ix _ _ _ _ _ _ _ ix_list (pv 0) (@pe_int _ _ _ _) (fun _ _ => rfl)) (@pe_callB _ _ _ _ _ _ _ _ _ call_len_seq (by rfl) T.b_len PySem.boot_len (@pa_cons _ _ _ _ _ (@pe_ix _ _ _ _ _ _ _ ix_list (pv 0) (@pe_int _ _ _ _) (fun _ _ => rfl)) (@pa_nil _) star_sub) (by decide) (by decide) (by rfl) (by rfl)) (nomark _)) (@pss_one _ _ _ (@ps_set _ _ 1 _ _ _ _ sc_l_take.nd rfl (Or.inl rfl) (@pe_callB _ _ _ _ _ _ _ _ _ call_abs (by rfl) T.b_abs PyProof.Rows.boot_abs (@pa_cons _ _ _ _ _ (@pe_ix _ _ _ _ _ _ _ ix_list (@pe_ix _ _ _ _ _ _ _ ix_list (pv 0) (@pe_int _ _ _ _) (fun _ _ => rfl)) (@pe_ix _ _ _ _ _ _ _ ix_list (pv 0) (@pe_int _ _ _ _) (fun _ _ => rfl)) (fun _ _ => rfl)) (@pa_nil _) star_sub) (by decide) (by decide) (by rfl) (by rfl)) (by rfl) (by first | exact .inl rfl | exact .inr rfl | assumption))) (@pss_nil _)) (@pss_cons _ _ _ _ _ (@ps_augS _ _ _ _ _ _ _ _ _ _ _ _ _ (pv 0) (@pe_int _ _ _ _) get_list (@pe_int _ _ _ _) ip_add set_list (by intros; rfl)) (@pss_cons _ _ _ _ _ (@ps_if _ _ _ _ _ _ _ _ (@pt_cmpR _ _ _ _ _ _ _ _ op_ge (pv 1) (@pe_op _ _ _ _ _ _ _ _ op_pow (@pe_int _ _ _ _) (@pe_int _ _ _ _)) (nomark _)) (@pss_one _ _ _ (@ps_asg _ _ _ _ _ _ (pv 1) (@pg_sub _ _ _ _ _ _ _ (pv 0) (@pe_int _ _ _ _) set_list (by intro _; rfl)) (by rfl) (by rfl) (by rfl))) (@pss_one _ _ _ (@ps_asg _ _ _ _ _ _ (@pe_int _ _ _ _) (@pg_sub _ _ _ _ _ _ _ (pv 0) (@pe_int _ _ _ _) set_list (by intro _; rfl)) (by rfl) (by rfl) (by rfl)))) (@pss_cons _ _ _ _ _ (@ps_asg _ _ _ _ _ _ (@pe_op _ _ _ _ _ _ _ _ op_add (@pe_op _ _ _ _ _ _ _ _ op_modN (@pe_op _ _ _ _ _ _ _ _ op_add (@pe_ix _ _ _ _ _ _ _ ix_list (pv 0) (@pe_int _ _ _ _) (fun _ _ => rfl)) (@pe_op _ _ _ _ _ _ _ _ op_modN (pv 1) (@pe_int _ _ _ _))) (@pe_int _ _ _ _)) (@pe_int _ _ _ _)) (@pg_sub _ _ _ _ _ _ _ (pv 0) (@pe_int _ _ _ _) set_list (by intro _; rfl)) (by rfl) (by rfl) (by rfl)) (@pss_cons _ _ _ _ _ (@ps_asg _ _ _ _ _ _ (@pe_op _ _ _ _ _ _ _ _ op_add (@pe_op _ _ _ _ _ _ _ _ op_modN (@pe_op _ _ _ _ _ _ _ _ op_add (@pe_op _ _ _ _ _ _ _ _ op_mulB (@pe_ix _ _ _ _ _ _ _ ix_list (pv 0) (@pe_int _ _ _ _) (fun _ _ => rfl)) (@pe_int _ _ _ _)) (@pe_op _ _ _ _ _ _ _ _ op_modN (pv 1) (@pe_int _ _ _ _))) (@pe_int _ _ _ _)) (@pe_int _ _ _ _)) (@pg_sub _ _ _ _ _ _ _ (pv 0) (@pe_int _ _ _ _) set_list (by intro _; rfl)) (by rfl) (by rfl) (by rfl)) (@pss_cons _ _ _ _ _ (@ps_expr _ _ _ _ (@pe_fn _ _ _ _ _ _ _ _ _ _ _ _ _ _ T.l_next (ok_l_next T) hr (by decide) (@pa_cons _ _ _ _ _ (pv 0) (@pa_nil _) star_name) (by rfl) (by decide) (by rfl) (by rfl)) (by rfl)) (@pss_one _ _ _ (@ps_expr _ _ _ _ (@pe_fn _ _ _ _ _ _ _ _ _ _ _ _ _ _ T.l_next (ok_l_next T) hr (by decide) (@pa_cons _ _ _ _ _ (pv 0) (@pa_nil _) star_name) (by rfl) (by decide) (by rfl) (by rfl)) (by rfl)))))))))), ?_⟩
    refine st_set pu_c ?_
    refine st_ifSet (R := fun v H' => H = H' ∧ ∃ cell : Int, v = .int cell) (v0 := .int 0) (pt_t (pu_lt (pu_ixL (pu_v rfl) pu_c (SqL.of h1) rfl) (pu_lenL (pa_c (pu_ixL (pu_v rfl) pu_c (SqL.of h1) rfl) pa_n) (SqL.of h2)))) (fun e => ?_) rfl (fun _ => ⟨rfl, 0, rfl⟩) ?_
    · have e' : i < ((ns.map V.int).length : Int) := by simpa using e
      rw [List.length_map] at e'
      obtain ⟨m, hm⟩ : ∃ m, ns[i.toNat]? = some m := ⟨_, List.getElem?_eq_getElem (by omega)⟩
      have hat : atI (ns.map V.int) i = some (.int m) := by
        have := atI_nat (xs := ns.map V.int) (j := i.toNat) (v := .int m) (by rw [List.getElem?_map, hm]; rfl)
        rwa [show ((i.toNat : Nat) : Int) = i by omega] at this
      exact (pu_abs (pa_c (pu_ixL (pu_ixL (pu_v rfl) pu_c (SqL.of h1) rfl) (pu_ixL (pu_v rfl) pu_c (SqL.of h1) rfl) (SqL.of h2) hat) pa_n)).gv' ⟨rfl, _, rfl⟩
    rintro v H' ⟨rfl, cell, rfl⟩
    refine st_augI (pu_v rfl) pu_c (by decide) h1 rfl pu_c rfl ?_
    refine st_if (pt_t (pu_ge (pu_v rfl) (pu_pow pu_c pu_c ⟨by decide, by decide, by decide⟩))) (fun _ => st_put1 (pu_v rfl) (pu_v rfl) pu_c upd_same rfl ?_) (fun _ => st_put1 pu_c (pu_v rfl) pu_c upd_same rfl ?_)
    all_goals
      refine st_put (pu_add (pu_mod (pu_add (pu_ixL (pu_v rfl) pu_c (SqL.of upd_same) rfl) (pu_mod (pu_v rfl) pu_c (by decide))) pu_c (by decide)) pu_c) (pu_v rfl) pu_c upd_same rfl ?_
      refine st_put (pu_add (pu_mod (pu_add (pu_mul (pu_ixL (pu_v rfl) pu_c (SqL.of upd_same) rfl) pu_c (IntMulOk.of_right (by decide))) (pu_mod (pu_v rfl) pu_c (by decide))) pu_c (by decide)) pu_c) (pu_v rfl) pu_c upd_same rfl ?_
      refine st_exprG (R := fun _ H' => HandAt H' hd sc ∧ SameB hd H H') (gv_call (pa_c (pu_v rfl) pa_n) fun Q f => ⟨hd, sc, rfl, ⟨ns, _, _, _, _, _, upd_same, by rw [upd_ne nsc, upd_ne nsc, upd_ne nsc, upd_ne nsc]; exact h2, (by omega : 0 ≤ i + 1)⟩, fun n H' a s => f _ _ ⟨a, ((SameB.upd.trans SameB.upd).trans (SameB.upd.trans SameB.upd)).trans s⟩⟩) ?_
      rintro _ H1 ⟨a1, s1⟩
      refine st_exprG1 (R := fun _ H' => HandAt H' hd sc ∧ SameB hd H H') (gv_call (pa_c (pu_v rfl) pa_n) fun Q f => ⟨hd, sc, rfl, a1, fun n H' a s => f _ _ ⟨a, s1.trans s⟩⟩) ?_
      rintro _ H2 ⟨a2, s2⟩
      exact k _ a2 s2
def sp_l_draw : Sp := fun vs H Q _ => ∃ hd sc m, vs = [.ref hd, .int m] ∧ HandAt H hd sc ∧ 0 < m ∧ Bd 9000 m ∧ ∀ (n : Int) H', 0 ≤ n → n < m → HandAt H' hd sc → SameB hd H H' → Q (.int n) H'
/-- draw(hand, m), m known -/
theorem gv_draw {σ : L2.St} {H : Hp} {hd sc : Addr} {t : TA} {m : Int} (hh : HandAt H hd sc) (ha : PuA t σ H [.ref hd, .int m]) (h0 : 0 < m) (hb : Bd 9000 m) : Gv (tCall sp_l_draw [] E0 t) σ H (fun v H' => (∃ n : Int, v = .int n ∧ 0 ≤ n ∧ n < m) ∧ HandAt H' hd sc ∧ SameB hd H H') :=
  gv_call ha fun Q f => ⟨hd, sc, m, rfl, hh, h0, hb, fun n H' z0 z1 a s => f _ _ ⟨⟨n, rfl, z0, z1⟩, a, s⟩⟩
theorem pick_of {xs : List V} {ys : List Int} {m : Int} (e : xs = ys.map V.int) (h : ∀ y ∈ ys, 0 < y ∧ y ≤ m) {n : Int} (h0 : 0 ≤ n) (h1 : n < ys.length) : ∃ y : Int, atI xs n = some (.int y) ∧ 0 < y ∧ y ≤ m := by
  subst e
  have hl : n.toNat < ys.length := by omega
  refine ⟨ys[n.toNat], ?_, h _ (List.getElem_mem hl)⟩
  have := atI_nat (xs := ys.map V.int) (j := n.toNat) (v := .int ys[n.toNat]) (by simp [hl])
  rwa [show ((n.toNat : Nat) : Int) = n by omega] at this
/-- [..][draw(hand, so many)] -/
theorem gv_pick {K : PySem.W.Frag} {σ : L2.St} {H : Hp} {hd sc : Addr} {t ta : TA} {ys : List Int} {m : Int} (hh : HandAt H hd sc) (hl : PuA ta σ H (ys.map V.int)) (hz : ys.length ≤ 1000) (h0 : 0 < ys.length) (hy : ∀ y ∈ ys, 0 < y ∧ y ≤ m)
    (ha : ∀ H', PuA t σ H' [.ref hd, .int (ys.length : Nat)]) : Gv (tOp (rIxL K) (tLst ta) (tCall sp_l_draw [] E0 t)) σ H (fun v H' => (∃ n : Int, v = .int n ∧ 0 < n ∧ n ≤ m) ∧ HandAt H' hd sc ∧ SameB hd H H') := by
  intro Q f
  refine gv_lst hl (by rw [List.length_map]; exact Nat.le_of_lt (small1000 hz)) _ ?_
  rintro _ _ ⟨p, hp, rfl, rfl⟩
  have s0 := Same.upd (o := .lst (ys.map V.int)) hp
  refine gv_draw (hh.same s0) (ha _) (by omega) (Bd.small (by omega)) _ ?_
  rintro _ H1 ⟨⟨n, rfl, z0, z1⟩, hh1, s1⟩
  obtain ⟨y, ey, y0, y1⟩ := pick_of (xs := ys.map V.int) rfl hy z0 z1
  obtain ⟨zs, hzs⟩ := hh.ls
  exact ⟨p, _, n, .int y, rfl, rfl, SqL.of (s1 _ _ upd_same (Ne.symm (ne_of_none hzs hp))), ey, f _ _ ⟨⟨y, rfl, y0, y1⟩, hh1, s0.b.trans s1⟩⟩
theorem sc_l_draw : FnScope ["_law_hand_here", "_law_many", "_law_got", "_law_value", "_law_size"] ["_law_hand_here", "_law_many"] (defScope s_l_draw) := ⟨rfl, rfl, rfl, by decide +kernel, rfl, by decide +kernel, by decide +kernel⟩
theorem ok_l_draw (T : Txt K mg t w) : FnOk P w K mg base CX0 3 t.f_l_draw t.d_l_draw ["_law_hand_here", "_law_many"] sp_l_draw := by
  refine T.l_draw.F.ok (k := 2) sc_l_draw (fun vs H Q E h => ?_) (fun cdv A outer s H vs Q E hr h => ?_)
  · obtain ⟨hd, sc, m, rfl, _⟩ := h
    rfl
  · obtain ⟨hd, sc, m, rfl, hh, hm, hB, k⟩ := h
    refine ⟨_, (@pss_cons _ _ _ _ _ (@ps_if _ _ _ _ _ _ _ _ (PW.pt (@pw_and _ _ _ _ _ _ _ (@pt_cmpR _ _ _ _ _ _ _ _ op_eq (@pe_ix _ _ _ _ _ _ _ ix_list (pv 0) (@pe_int _ _ _ _) (fun _ _ => rfl)) (@pe_int _ _ _ _) (nomark _)) (@pw_and1 _ _ _ _ (@pt_cmpR _ _ _ _ _ _ _ _ op_eq (@pe_ix _ _ _ _ _ _ _ ix_list (pv 0) (@pe_int _ _ _ _) (fun _ _ => rfl)) (@pe_int _ _ _ _) (nomark _))))) (@pss_one _ _ _ (@ps_expr _ _ _ _ (@pe_fn _ _ _ _ _ _ _ _ _ _ _ _ _ _ T.l_take (ok_l_take T) hr (by decide) (@pa_cons _ _ _ _ _ (pv 0) (@pa_nil _) star_name) (by rfl) (by decide) (by rfl) (by rfl)) (by rfl))) (@pss_nil _)) (@pss_cons _ _ _ _ _ (@ps_if _ _ _ _ _ _ _ _ (@pt_cmpR _ _ _ _ _ _ _ _ op_gt (@pe_ix _ _ _ _ _ _ _ ix_list (pv 0) (@pe_int _ _ _ _) (fun _ _ => rfl)) (@pe_int _ _ _ _) (nomark _)) (@pss_cons _ _ _ _ _ (@ps_set _ _ 2 _ _ _ _ sc_l_draw.nd rfl (Or.inl rfl) (@pe_op _ _ _ _ _ _ _ _ op_modN (@pe_ix _ _ _ _ _ _ _ ix_list (pv 0) (@pe_int _ _ _ _) (fun _ _ => rfl)) (pv 1)) (by rfl) (by first | exact .inl rfl | exact .inr rfl | assumption)) (@pss_cons _ _ _ _ _ (@ps_asg _ _ _ _ _ _ (@pe_op _ _ _ _ _ _ _ _ op_fdivB (@pe_ix _ _ _ _ _ _ _ ix_list (pv 0) (@pe_int _ _ _ _) (fun _ _ => rfl)) (pv 1)) (@pg_sub _ _ _ _ _ _ _ (pv 0) (@pe_int _ _ _ _) set_list (by intro _; rfl)) (by rfl) (by rfl) (by rfl)) (@pss_one _ _ _ (@ps_ret _ _ _ _ (pv 2))))) (@pss_nil _)) (@pss_cons _ _ _ _ _ (@ps_augS _ _ _ _ _ _ _ _ _ _ _ _ _ (pv 0) (@pe_int _ _ _ _) get_list (@pe_int _ _ _ _) ip_sub set_list (by intros; rfl)) (@pss_cons _ _ _ _ _ (@ps_set _ _ 3 _ _ _ _ sc_l_draw.nd rfl (Or.inl rfl) (@pe_fn _ _ _ _ _ _ _ _ _ _ _ _ _ _ T.l_next (ok_l_next T) hr (by decide) (@pa_cons _ _ _ _ _ (pv 0) (@pa_nil _) star_name) (by rfl) (by decide) (by rfl) (by rfl)) (by rfl) (by first | exact .inl rfl | exact .inr rfl | assumption)) (@pss_cons _ _ _ _ _ (@ps_set _ _ 4 _ _ _ _ sc_l_draw.nd rfl (Or.inl rfl) (@pe_int _ _ _ _) (by rfl) (by first | exact .inl rfl | exact .inr rfl | assumption)) (@pss_cons _ _ _ _ _ (@ps_while _ _ _ _ _ _ PassesOwn.never (@pt_cmpR _ _ _ _ _ _ _ _ op_lt (pv 4) (pv 1) (nomark _)) (@pss_cons _ _ _ _ _ (@ps_set _ _ 3 _ _ _ _ sc_l_draw.nd rfl (Or.inl rfl) (@pe_op _ _ _ _ _ _ _ _ op_add (@pe_op _ _ _ _ _ _ _ _ op_mulB (pv 3) (@pe_int _ _ _ _)) (@pe_fn _ _ _ _ _ _ _ _ _ _ _ _ _ _ T.l_next (ok_l_next T) hr (by decide) (@pa_cons _ _ _ _ _ (pv 0) (@pa_nil _) star_name) (by rfl) (by decide) (by rfl) (by rfl))) (by rfl) (by first | exact .inl rfl | exact .inr rfl | assumption)) (@pss_one _ _ _ (@ps_set _ _ 4 _ _ _ _ sc_l_draw.nd rfl (Or.inl rfl) (@pe_op _ _ _ _ _ _ _ _ op_mulB (pv 4) (@pe_int _ _ _ _)) (by rfl) (by first | exact .inl rfl | exact .inr rfl | assumption))))) (@pss_one _ _ _ (@ps_ret _ _ _ _ (@pe_op _ _ _ _ _ _ _ _ op_modN (pv 3) (pv 1)))))))))), ?_⟩
    refine (show ∀ (H1 : Hp) (rest : TS) (D : Ends) (σ : L2.St) (tc : TT) (te : TE), (∃ b, PuT tc σ H b ∧ (b = true → Gv te σ H (fun _ H' => HandAt H' hd sc ∧ SameB hd H H'))) → (∀ H', HandAt H' hd sc → SameB hd H H' → rest D σ H') → tSeq (tIfS tc (tDrop te) tNext) rest D σ H from fun H1 rest D σ tc te ⟨b, hc, he⟩ q => st_if hc (fun e => st_exprG1 (he e) fun v H' r => q H' r.1 r.2) fun _ => q H hh (SameB.refl _ _)) H _ _ _ _ _ ?_ ?_
    · obtain ⟨ns, i, b, c, p, q, h1, h2, h0⟩ := id hh
      exact ⟨_, pt_and (pt_t (pu_eqI (pu_ixL (pu_v rfl) pu_c (SqL.of h1) rfl) pu_c)) fun _ => pt_t (pu_eqI (pu_ixL (pu_v rfl) pu_c (SqL.of h1) rfl) pu_c), fun _ => gv_call (pa_c (pu_v rfl) pa_n) fun Q f => ⟨hd, sc, rfl, hh, fun H' a s => f _ _ ⟨a, s⟩⟩⟩
    intro H1 hh1 s1
    obtain ⟨ns, i, b, c, p, q, h1, h2, h0⟩ := id hh1
    have nsc := HandAt.ne h1 h2
    refine st_if (pt_t (pu_gt (pu_ixL (pu_v rfl) pu_c (SqL.of h1) rfl) pu_c)) (fun _ => ?_) fun _ => ?_
    · refine st_set (pu_mod (pu_ixL (pu_v rfl) pu_c (SqL.of h1) rfl) (pu_v rfl) (by omega)) ?_
      refine st_put (pu_fdiv (pu_ixL (pu_v rfl) pu_c (SqL.of h1) rfl) (pu_v rfl) ⟨by omega, hB⟩) (pu_v rfl) pu_c h1 rfl ?_
      refine st_ret (pu_v rfl) ?_
      have hl := fmod_lt (x := b) hm
      exact k _ _ hl.1 hl.2 ⟨ns, i, _, c, p, q, upd_same, by rw [upd_ne nsc]; exact h2, h0⟩ (s1.trans SameB.upd)
    · refine st_augI (pu_v rfl) pu_c (by decide) h1 rfl pu_c rfl ?_
      have hh2 : HandAt (upd H1 hd (.lst [.ref sc, .int i, .int b, .int (c - 1), .int p, .int q])) hd sc := ⟨ns, i, b, c - 1, p, q, upd_same, by rw [upd_ne nsc]; exact h2, h0⟩
      refine st_setG (R := fun v H' => (∃ n : Int, v = .int n) ∧ HandAt H' hd sc ∧ SameB hd H H') (gv_call (pa_c (pu_v rfl) pa_n) fun Q f => ⟨hd, sc, rfl, hh2, fun n H' a s => f _ _ ⟨⟨n, rfl⟩, a, s1.trans (SameB.upd.trans s)⟩⟩) ?_
      rintro _ H3 ⟨⟨n, rfl⟩, hh3, s3⟩
      refine st_set pu_c ?_
      refine st_while (fun σ H' => HandAt H' hd sc ∧ SameB hd H H' ∧ ∃ (x y : Int) (r : Option V), σ = [some (.ref hd), some (.int m), r, some (.int x), some (.int y)] ∧ 0 < y) (fun σ _ => match σ with | [_, _, _, _, some (.int y)] => (m - y).toNat | _ => 0)
        ⟨hh3, s3, n, 4294967296, _, rfl, by decide⟩ ?_
      rintro σ H4 ⟨hh4, s4, x, y, r, rfl, hy⟩
      refine ⟨_, pt_t (pu_lt (pu_v rfl) (pu_v rfl)), fun e => ?_, fun e => ?_⟩
      · have e' : y < m := by simpa using e
        refine st_setG (R := fun v H' => (∃ n : Int, v = .int n) ∧ HandAt H' hd sc ∧ SameB hd H H') (fun Q f => pu_mul (pu_v rfl) pu_c (IntMulOk.of_right (by decide)) _ ?_) ?_
        · exact gv_call (sp := sp_l_next) (E := E0) (R := fun v H' => (∃ n : Int, v = .int n) ∧ HandAt H' hd sc ∧ SameB hd H H') (pa_c (pu_v rfl) pa_n) (fun Q f => ⟨hd, sc, rfl, hh4, fun n H' a s => f _ _ ⟨⟨n, rfl⟩, a, s4.trans s⟩⟩) _ fun v H' ⟨⟨n, e⟩, a, s⟩ => by
            subst e
            exact ⟨_, n, rfl, rfl, f _ _ ⟨⟨_, rfl⟩, a, s⟩⟩
        rintro _ H5 ⟨⟨z, rfl⟩, hh5, s5⟩
        refine st_set1 (pu_mul (pu_v rfl) pu_c (IntMulOk.of_right (by decide))) ?_
        exact ⟨⟨hh5, s5, z, y * 4294967296, r, rfl, by omega⟩, by show (m - y * 4294967296).toNat < (m - y).toNat; omega⟩
      · refine st_ret (pu_mod (pu_v rfl) (pu_v rfl) (by omega)) ?_
        have hl := fmod_lt (x := x) hm
        exact k _ _ hl.1 hl.2 hh4 s4
def sp_l_divisor : Sp := fun vs H Q _ => ∃ a b : Int, vs = [.int a, .int b] ∧ Q (.int (Int.gcd a b)) H
theorem sc_l_divisor : FnScope ["_law_one", "_law_other"] ["_law_one", "_law_other"] (defScope s_l_divisor) := ⟨rfl, rfl, rfl, by decide +kernel, rfl, by decide +kernel, by decide +kernel⟩
theorem ok_l_divisor (T : Txt K mg t w) : FnOk P w K mg base CX0 1 t.f_l_divisor t.d_l_divisor ["_law_one", "_law_other"] sp_l_divisor := by
  refine T.l_divisor.F.ok (k := 0) sc_l_divisor (fun vs H Q E h => ?_) (fun cdv A outer s H vs Q E hr h => ?_)
  · obtain ⟨a, b, rfl, _⟩ := h
    rfl
  · obtain ⟨a, b, rfl, k⟩ := h
    refine ⟨_, (@pss_cons _ _ _ _ _ (@ps_set _ _ 0 _ _ _ _ sc_l_divisor.nd rfl (Or.inl rfl) (@pe_callB _ _ _ _ _ _ _ _ _ call_abs (by rfl) T.b_abs PyProof.Rows.boot_abs (@pa_cons _ _ _ _ _ (pv 0) (@pa_nil _) star_name) (by decide) (by decide) (by rfl) (by rfl)) (by rfl) (by first | exact .inl rfl | exact .inr rfl | assumption)) (@pss_cons _ _ _ _ _ (@ps_set _ _ 1 _ _ _ _ sc_l_divisor.nd rfl (Or.inl rfl) (@pe_callB _ _ _ _ _ _ _ _ _ call_abs (by rfl) T.b_abs PyProof.Rows.boot_abs (@pa_cons _ _ _ _ _ (pv 1) (@pa_nil _) star_name) (by decide) (by decide) (by rfl) (by rfl)) (by rfl) (by first | exact .inl rfl | exact .inr rfl | assumption)) (@pss_cons _ _ _ _ _ (@ps_while _ _ _ _ _ _ PassesOwn.never (@pt_cmpR _ _ _ _ _ _ _ _ op_gt (pv 1) (@pe_int _ _ _ _) (nomark _)) (@pss_one _ _ _ (@ps_par _ _ 0 1 _ _ _ _ _ _ _ _ _ _ _ rfl sc_l_divisor.nd rfl rfl (by decide) rfl rfl (@pa_cons _ _ _ _ _ (pv 1) (@pa_cons _ _ _ _ _ (@pe_op _ _ _ _ _ _ _ _ op_modN (pv 0) (pv 1)) (@pa_nil _) star_bin) star_name) (by rfl) (by rfl)))) (@pss_one _ _ _ (@ps_ret _ _ _ _ (pv 0)))))), ?_⟩
    refine st_set (pu_abs (pa_c (pu_v rfl) pa_n)) ?_
    refine st_set (pu_abs (pa_c (pu_v rfl) pa_n)) ?_
    refine st_while (fun σ H' => H' = H ∧ ∃ (x y : Int), σ = [some (.int x), some (.int y)] ∧ 0 ≤ x ∧ 0 ≤ y ∧ Int.gcd x y = Int.gcd a b) (fun σ _ => match σ with | [_, some (.int y)] => y.toNat | _ => 0)
      ⟨rfl, a.natAbs, b.natAbs, rfl, by omega, by omega, rfl⟩ ?_
    rintro σ H' ⟨rfl, x, y, rfl, hx, hy, hg⟩
    refine ⟨_, pt_t (pu_gt (pu_v rfl) pu_c), fun e => ?_, fun e => ?_⟩
    · have e' : 0 < y := by simpa using e
      have hm := fmod_lt (x := x) e'
      refine pa_c (pu_v rfl) (pa_c (pu_mod (pu_v rfl) (pu_v rfl) (by omega)) pa_n) _ ?_
      exact ⟨_, _, rfl, ⟨rfl, y, x.fmod y, rfl, hy, hm.1, by rw [gcd_step hx hy]; exact hg⟩, by show (x.fmod y).toNat < y.toNat; omega⟩
    · have e' : ¬ 0 < y := by simpa using e
      have e'' : y = 0 := by omega
      subst e''
      refine st_ret (pu_v rfl) ?_
      rw [← hg, gcd_zero x hx] at k
      exact k
def sp_l_point : Sp := fun vs H Q _ => ∃ a b c : Int, vs = [.int a, .int b, .int c] ∧ 0 < c ∧ Bd 9000 c ∧ ∀ v H' r, Same H H' → AtP H' v r → Is3 a b c r → Q v H'
theorem gv_point {σ : L2.St} {H : Hp} {t : TA} {a b c : Int} (ha : PuA t σ H [.int a, .int b, .int c]) (hc : 0 < c) (hb : Bd 9000 c) : Gv (tCall sp_l_point [] E0 t) σ H (fun v H' => Same H H' ∧ ∃ r, AtP H' v r ∧ Is3 a b c r) :=
  gv_call ha fun Q f => ⟨a, b, c, rfl, hc, hb, fun v H' r s t i => f _ _ ⟨s, r, t, i⟩⟩
theorem sc_l_point : FnScope ["_law_a", "_law_b", "_law_c", "_law_d"] ["_law_a", "_law_b", "_law_c"] (defScope s_l_point) := ⟨rfl, rfl, rfl, by decide +kernel, rfl, by decide +kernel, by decide +kernel⟩
theorem ok_l_point (T : Txt K mg t w) : FnOk P w K mg base CX0 2 t.f_l_point t.d_l_point ["_law_a", "_law_b", "_law_c"] sp_l_point := by
  refine T.l_point.F.ok (k := 1) sc_l_point (fun vs H Q E h => ?_) (fun cdv A outer s H vs Q E hr h => ?_)
  · obtain ⟨a, b, c, rfl, _⟩ := h
    rfl
  · obtain ⟨a, b, c, rfl, hc, hB, k⟩ := h
    refine ⟨_, (@pss_cons _ _ _ _ _ (@ps_set _ _ 3 _ _ _ _ sc_l_point.nd rfl (Or.inl rfl) (@pe_fn _ _ _ _ _ _ _ _ _ _ _ _ _ _ T.l_divisor (ok_l_divisor T) hr (by decide) (@pa_cons _ _ _ _ _ (@pe_fn _ _ _ _ _ _ _ _ _ _ _ _ _ _ T.l_divisor (ok_l_divisor T) hr (by decide) (@pa_cons _ _ _ _ _ (pv 2) (@pa_cons _ _ _ _ _ (pv 0) (@pa_nil _) star_name) star_name) (by rfl) (by decide) (by rfl) (by rfl)) (@pa_cons _ _ _ _ _ (pv 1) (@pa_nil _) star_name) star_call) (by rfl) (by decide) (by rfl) (by rfl)) (by rfl) (by first | exact .inl rfl | exact .inr rfl | assumption)) (@pss_one _ _ _ (@ps_ret _ _ _ _ (@pe_tup _ _ _ _ _ (@pa_cons _ _ _ _ _ (@pe_op _ _ _ _ _ _ _ _ op_fdivB (pv 0) (pv 3)) (@pa_cons _ _ _ _ _ (@pe_op _ _ _ _ _ _ _ _ op_fdivB (pv 1) (pv 3)) (@pa_cons _ _ _ _ _ (@pe_op _ _ _ _ _ _ _ _ op_fdivB (pv 2) (pv 3)) (@pa_nil _) star_bin) star_bin) star_bin))))), ?_⟩
    obtain ⟨hi, hd⟩ := pt_has (a := a) (b := b) hc
    have hdB : Bd 9000 (Int.gcd (Int.gcd c a) b : Int) := by
      refine hB.le ?_
      have : (Int.gcd (Int.gcd c a) b : Nat) ≤ c.natAbs := by
        refine Nat.le_of_dvd (by omega) ?_
        refine Nat.dvd_trans (Int.gcd_dvd_natAbs_left _ _) ?_
        rw [Int.natAbs_natCast]
        exact Int.gcd_dvd_natAbs_left c a
      exact this
    refine st_set (pu_call (pa_c (pu_call (pa_c (pu_v rfl) (pa_c (pu_v rfl) pa_n)) (fun Q q => ⟨c, a, rfl, q⟩)) (pa_c (pu_v rfl) pa_n)) (fun Q q => ⟨_, b, rfl, q⟩)) ?_
    refine st_retG (gv_tup (pa_c (pu_fdiv (pu_v rfl) (pu_v rfl) ⟨by omega, hdB⟩) (pa_c (pu_fdiv (pu_v rfl) (pu_v rfl) ⟨by omega, hdB⟩) (pa_c (pu_fdiv (pu_v rfl) (pu_v rfl) ⟨by omega, hdB⟩) pa_n))) (by show 3 ≤ sizeLine; decide)) ?_
    rintro _ _ ⟨p, hp, rfl, rfl⟩
    exact k _ _ _ (Same.upd hp) (TupT.of upd_same) hi
def sp_l_number : Sp := fun vs H Q _ => ∃ hd sc, vs = [.ref hd] ∧ HandAt H hd sc ∧ ∀ (n : Int) H', n.natAbs < 10 ^ 60 → HandAt H' hd sc → SameB hd H H' → Q (.int n) H'
theorem gv_number {σ : L2.St} {H : Hp} {hd sc : Addr} {t : TA} (hh : HandAt H hd sc) (ha : PuA t σ H [.ref hd]) : Gv (tCall sp_l_number [] E0 t) σ H (fun v H' => (∃ n : Int, v = .int n ∧ n.natAbs < 10 ^ 60) ∧ HandAt H' hd sc ∧ SameB hd H H') :=
  gv_call ha fun Q f => ⟨hd, sc, rfl, hh, fun n H' hb a s => f _ _ ⟨⟨n, rfl, hb⟩, a, s⟩⟩
theorem sc_l_number : FnScope ["_law_hand_here", "_law_way", "_law_number_here"] ["_law_hand_here"] (defScope s_l_number) := ⟨rfl, rfl, rfl, by decide +kernel, rfl, by decide +kernel, by decide +kernel⟩
theorem ok_l_number (T : Txt K mg t w) : FnOk P w K mg base CX0 4 t.f_l_number t.d_l_number ["_law_hand_here"] sp_l_number := by
  refine T.l_number.F.ok (k := 3) sc_l_number (fun vs H Q E h => ?_) (fun cdv A outer s H vs Q E hr h => ?_)
  · obtain ⟨hd, sc, rfl, _⟩ := h
    rfl
  · obtain ⟨hd, sc, rfl, hh, k⟩ := h
    refine ⟨_, (@pss_cons _ _ _ _ _ (@ps_set _ _ 1 _ _ _ _ sc_l_number.nd rfl (Or.inl rfl) (@pe_fn _ _ _ _ _ _ _ _ _ _ _ _ _ _ T.l_draw (ok_l_draw T) hr (by decide) (@pa_cons _ _ _ _ _ (pv 0) (@pa_cons _ _ _ _ _ (@pe_int _ _ _ _) (@pa_nil _) star_con) star_name) (by rfl) (by decide) (by rfl) (by rfl)) (by rfl) (by first | exact .inl rfl | exact .inr rfl | assumption)) (@pss_cons _ _ _ _ _ (@ps_set _ _ 2 _ _ _ _ sc_l_number.nd rfl (Or.inl rfl) (@pe_fn _ _ _ _ _ _ _ _ _ _ _ _ _ _ T.l_draw (ok_l_draw T) hr (by decide) (@pa_cons _ _ _ _ _ (pv 0) (@pa_cons _ _ _ _ _ (@pe_int _ _ _ _) (@pa_nil _) star_con) star_name) (by rfl) (by decide) (by rfl) (by rfl)) (by rfl) (by first | exact .inl rfl | exact .inr rfl | assumption)) (@pss_cons _ _ _ _ _ (@ps_if _ _ _ _ _ _ _ _ (@pt_cmpR _ _ _ _ _ _ _ _ op_eq (pv 1) (@pe_int _ _ _ _) (nomark _)) (@pss_one _ _ _ (@ps_set _ _ 2 _ _ _ _ sc_l_number.nd rfl (Or.inl rfl) (@pe_fn _ _ _ _ _ _ _ _ _ _ _ _ _ _ T.l_draw (ok_l_draw T) hr (by decide) (@pa_cons _ _ _ _ _ (pv 0) (@pa_cons _ _ _ _ _ (@pe_op _ _ _ _ _ _ _ _ op_pow (@pe_int _ _ _ _) (@pe_int _ _ _ _)) (@pa_nil _) star_bin) star_name) (by rfl) (by decide) (by rfl) (by rfl)) (by rfl) (by first | exact .inl rfl | exact .inr rfl | assumption))) (@pss_nil _)) (@pss_cons _ _ _ _ _ (@ps_if _ _ _ _ _ _ _ _ (@pt_cmpR _ _ _ _ _ _ _ _ op_eq (pv 1) (@pe_int _ _ _ _) (nomark _)) (@pss_one _ _ _ (@ps_set _ _ 2 _ _ _ _ sc_l_number.nd rfl (Or.inl rfl) (@pe_op _ _ _ _ _ _ _ _ op_sub (@pe_op _ _ _ _ _ _ _ _ op_sub (@pe_op _ _ _ _ _ _ _ _ op_pow (@pe_int _ _ _ _) (@pe_int _ _ _ _)) (@pe_int _ _ _ _)) (pv 2)) (by rfl) (by first | exact .inl rfl | exact .inr rfl | assumption))) (@pss_nil _)) (@pss_cons _ _ _ _ _ (@ps_if _ _ _ _ _ _ _ _ (@pt_cmpR _ _ _ _ _ _ _ _ op_eq (pv 1) (@pe_int _ _ _ _) (nomark _)) (@pss_one _ _ _ (@ps_set _ _ 2 _ _ _ _ sc_l_number.nd rfl (Or.inl rfl) (@pe_op _ _ _ _ _ _ _ _ op_fdivB (@pe_op _ _ _ _ _ _ _ _ op_sub (@pe_op _ _ _ _ _ _ _ _ op_pow (@pe_int _ _ _ _) (@pe_int _ _ _ _)) (@pe_int _ _ _ _)) (@pe_op _ _ _ _ _ _ _ _ op_add (@pe_int _ _ _ _) (@pe_fn _ _ _ _ _ _ _ _ _ _ _ _ _ _ T.l_draw (ok_l_draw T) hr (by decide) (@pa_cons _ _ _ _ _ (pv 0) (@pa_cons _ _ _ _ _ (@pe_op _ _ _ _ _ _ _ _ op_pow (@pe_int _ _ _ _) (@pe_int _ _ _ _)) (@pa_nil _) star_bin) star_name) (by rfl) (by decide) (by rfl) (by rfl)))) (by rfl) (by first | exact .inl rfl | exact .inr rfl | assumption))) (@pss_nil _)) (@pss_cons _ _ _ _ _ (@ps_if _ _ _ _ _ _ _ _ (@pt_cmpR _ _ _ _ _ _ _ _ op_eq (pv 1) (@pe_int _ _ _ _) (nomark _)) (@pss_one _ _ _ (@ps_set _ _ 2 _ _ _ _ sc_l_number.nd rfl (Or.inl rfl) (@pe_fn _ _ _ _ _ _ _ _ _ _ _ _ _ _ T.l_draw (ok_l_draw T) hr (by decide) (@pa_cons _ _ _ _ _ (pv 0) (@pa_cons _ _ _ _ _ (@pe_op _ _ _ _ _ _ _ _ op_pow (@pe_int _ _ _ _) (@pe_int _ _ _ _)) (@pa_nil _) star_bin) star_name) (by rfl) (by decide) (by rfl) (by rfl)) (by rfl) (by first | exact .inl rfl | exact .inr rfl | assumption))) (@pss_nil _)) (@pss_cons _ _ _ _ _ (@ps_if _ _ _ _ _ _ _ _ (@pt_cmpR _ _ _ _ _ _ _ _ op_eq (@pe_fn _ _ _ _ _ _ _ _ _ _ _ _ _ _ T.l_draw (ok_l_draw T) hr (by decide) (@pa_cons _ _ _ _ _ (pv 0) (@pa_cons _ _ _ _ _ (@pe_int _ _ _ _) (@pa_nil _) star_con) star_name) (by rfl) (by decide) (by rfl) (by rfl)) (@pe_int _ _ _ _) (nomark _)) (@pss_one _ _ _ (@ps_set _ _ 2 _ _ _ _ sc_l_number.nd rfl (Or.inl rfl) (@pe_un _ _ _ _ _ _ un_neg (pv 2)) (by rfl) (by first | exact .inl rfl | exact .inr rfl | assumption))) (@pss_nil _)) (@pss_one _ _ _ (@ps_ret _ _ _ _ (pv 2)))))))))), ?_⟩
    have P60 : ∀ {σ : L2.St} {H' : Hp}, Pu (tOp (rI CPow fun i j => .int (i ^ j.toNat)) (tC (.int 10)) (tC (.int 60))) σ H' (.int (10 ^ 60)) := pu_pow pu_c pu_c ⟨by decide, by decide, by decide⟩
    have P58 : ∀ {σ : L2.St} {H' : Hp}, Pu (tOp (rI CPow fun i j => .int (i ^ j.toNat)) (tC (.int 10)) (tC (.int 58))) σ H' (.int (10 ^ 58)) := pu_pow pu_c pu_c ⟨by decide, by decide, by decide⟩
    have P5 : ∀ {σ : L2.St} {H' : Hp}, Pu (tOp (rI CPow fun i j => .int (i ^ j.toNat)) (tC (.int 10)) (tC (.int 5))) σ H' (.int (10 ^ 5)) := pu_pow pu_c pu_c ⟨by decide, by decide, by decide⟩
    have B60 : Bd 9000 (10 ^ 60 : Int) := by unfold Bd; decide +kernel
    have B58 : Bd 9000 (10 ^ 58 : Int) := by unfold Bd; decide +kernel
    refine st_setG (gv_draw hh (pa_c (pu_v rfl) (pa_c pu_c pa_n)) (by decide) Bd.small) ?_
    rintro _ H1 ⟨⟨w, rfl, _, _⟩, hh1, s1⟩
    refine st_setG (gv_draw hh1 (pa_c (pu_v rfl) (pa_c pu_c pa_n)) (by decide) Bd.small) ?_
    rintro _ H2 ⟨⟨n, rfl, n0, n1⟩, hh2, s2⟩
    have s12 := s1.trans s2
    have n60 : n < 10 ^ 60 := by omega
    refine st_ifSet (R := fun v H' => ∃ n : Int, v = .int n ∧ 0 ≤ n ∧ n < 10 ^ 60 ∧ HandAt H' hd sc ∧ SameB hd H H') (v0 := .int n) (pt_t (pu_eqI (pu_v rfl) pu_c)) (fun _ => (gv_draw hh2 (pa_c (pu_v rfl) (pa_c P60 pa_n)) (by decide) B60).imp fun v H' ⟨⟨m, e, m0, m1⟩, a, s⟩ => ⟨m, e, m0, m1, a, s12.trans s⟩) rfl (fun _ => ⟨n, rfl, n0, n60, hh2, s12⟩) ?_
    rintro _ H3 ⟨n3, rfl, a0, a1, hh3, s3⟩
    refine st_ifSet (R := fun v H' => ∃ n : Int, v = .int n ∧ 0 ≤ n ∧ n < 10 ^ 60 ∧ HandAt H' hd sc ∧ SameB hd H H') (v0 := .int n3) (pt_t (pu_eqI (pu_v rfl) pu_c)) (fun _ => (pu_sub (pu_sub P60 pu_c) (pu_v rfl)).gv' ⟨_, rfl, by omega, by omega, hh3, s3⟩) rfl (fun _ => ⟨n3, rfl, a0, a1, hh3, s3⟩) ?_
    rintro _ H4 ⟨n4, rfl, c0, c1, hh4, s4⟩
    refine st_ifSet (R := fun v H' => ∃ n : Int, v = .int n ∧ 0 ≤ n ∧ n < 10 ^ 60 ∧ HandAt H' hd sc ∧ SameB hd H H') (v0 := .int n4) (pt_t (pu_eqI (pu_v rfl) pu_c)) (fun _ => fun Q q => ?_) rfl (fun _ => ⟨n4, rfl, c0, c1, hh4, s4⟩) ?_
    · refine (pu_sub P60 pu_c) _ (pu_c (v := .int 1) _ (gv_draw hh4 (pa_c (pu_v rfl) (pa_c P58 pa_n)) (by decide) B58 _ ?_))
      rintro _ H5 ⟨⟨m, rfl, m0, m1⟩, hh5, s5⟩
      have bm : Bd 9000 (1 + m) := by
        unfold Bd
        have : (10 : Int) ^ 58 < 2 ^ 200 := by decide +kernel
        have h2 : (2 : Nat) ^ 200 < 2 ^ 9000 := Nat.pow_lt_pow_right (by decide) (by decide)
        omega
      refine ⟨1, m, rfl, rfl, 10 ^ 60 - 1, 1 + m, rfl, rfl, ⟨by omega, bm⟩, q _ _ ⟨_, rfl, ?_, ?_, hh5, s4.trans s5⟩⟩
      · rw [Int.fdiv_eq_ediv_of_nonneg _ (by omega)]
        exact Int.ediv_nonneg (by decide) (by omega)
      · rw [Int.fdiv_eq_ediv_of_nonneg _ (by omega)]
        exact Int.lt_of_le_of_lt (Int.ediv_le_self _ (by decide)) (by decide)
    rintro _ H5 ⟨n5, rfl, d0, d1, hh5, s5⟩
    refine st_ifSet (R := fun v H' => ∃ n : Int, v = .int n ∧ 0 ≤ n ∧ n < 10 ^ 60 ∧ HandAt H' hd sc ∧ SameB hd H H') (v0 := .int n5) (pt_t (pu_eqI (pu_v rfl) pu_c)) (fun _ => (gv_draw hh5 (pa_c (pu_v rfl) (pa_c P5 pa_n)) (by decide) (Bd.small (by decide))).imp fun v H' ⟨⟨m, e, m0, m1⟩, a, s⟩ => ⟨m, e, m0, by omega, a, s5.trans s⟩) rfl (fun _ => ⟨n5, rfl, d0, d1, hh5, s5⟩) ?_
    rintro _ H6 ⟨n6, rfl, e0, e1, hh6, s6⟩
    refine st_ifRG (RB := fun _ H' => HandAt H' hd sc ∧ SameB hd H H') (fun σ' H' => HandAt H' hd sc ∧ SameB hd H H' ∧ ∃ m : Int, m.natAbs < 10 ^ 60 ∧ σ' = [some (.ref hd), some (.int w), some (.int m)]) (fun Q q => ?_) (fun H7 r D' q _ => ?_) (fun H7 r => ⟨r.1, r.2, n6, by omega, rfl⟩) ?_
    · refine gv_draw hh6 (pa_c (pu_v rfl) (pa_c pu_c pa_n)) (by decide) Bd.small _ ?_
      rintro _ H7 ⟨⟨m, rfl, _, _⟩, hh7, s7⟩
      exact ⟨rfl, _, rfl, q _ _ ⟨hh7, s6.trans s7⟩⟩
    · exact st_set1 (pu_neg (pu_v rfl)) (q _ _ ⟨r.1, r.2, -n6, by omega, rfl⟩)
    rintro _ H7 ⟨hh7, s7, m, hm, rfl⟩
    exact st_ret (pu_v rfl) (k m H7 hm hh7 s7)
/-- 1 + draw(hand, m) -/
theorem gv_draw1 {σ : L2.St} {H : Hp} {hd sc : Addr} {t : TA} {m : Int} (hh : HandAt H hd sc) (ha : PuA t σ H [.ref hd, .int m]) (h0 : 0 < m) (hb : Bd 9000 m) : Gv (tOp (rI0 fun i j => .int (i + j)) (tC (.int 1)) (tCall sp_l_draw [] E0 t)) σ H (fun v H' => (∃ n : Int, v = .int n ∧ 0 < n ∧ n ≤ m) ∧ HandAt H' hd sc ∧ SameB hd H H') := fun Q f => pu_c (v := .int 1) _ (gv_draw hh ha h0 hb _ fun v H' ⟨⟨n, e, n0, n1⟩, a, s⟩ => by
  subst e
  exact ⟨1, n, rfl, rfl, f _ _ ⟨⟨_, rfl, by omega, by omega⟩, a, s⟩⟩)
def sp_l_fraction : Sp := fun vs H Q _ => ∃ hd sc, vs = [.ref hd] ∧ HandAt H hd sc ∧ ∀ v (f : Int × Int) H', FrL f → FrS f → TupT H' v [f.1, f.2] → HandAt H' hd sc → SameB hd H H' → Q v H'
theorem bd_60 {n : Int} (h : n.natAbs < 10 ^ 60) : Bd 700 n := by
  unfold Bd
  exact Nat.lt_trans h (by decide +kernel)
theorem sc_l_fraction : FnScope ["_law_hand_here", "_law_top_here", "_law_bottom", "_law_by"] ["_law_hand_here"] (defScope s_l_fraction) := ⟨rfl, rfl, rfl, by decide +kernel, rfl, by decide +kernel, by decide +kernel⟩
theorem ok_l_fraction (T : Txt K mg t w) : FnOk P w K mg base CX0 5 t.f_l_fraction t.d_l_fraction ["_law_hand_here"] sp_l_fraction := by
  refine T.l_fraction.F.ok (k := 4) sc_l_fraction (fun vs H Q E h => ?_) (fun cdv A outer s H vs Q E hr h => ?_)
  · obtain ⟨hd, sc, rfl, _⟩ := h
    rfl
  · obtain ⟨hd, sc, rfl, hh, k⟩ := h
    refine ⟨_, (@pss_cons _ _ _ _ _ (@ps_set _ _ 1 _ _ _ _ sc_l_fraction.nd rfl (Or.inl rfl) (@pe_fn _ _ _ _ _ _ _ _ _ _ _ _ _ _ T.l_number (ok_l_number T) hr (by decide) (@pa_cons _ _ _ _ _ (pv 0) (@pa_nil _) star_name) (by rfl) (by decide) (by rfl) (by rfl)) (by rfl) (by first | exact .inl rfl | exact .inr rfl | assumption)) (@pss_cons _ _ _ _ _ (@ps_set _ _ 2 _ _ _ _ sc_l_fraction.nd rfl (Or.inl rfl) (@pe_int _ _ _ _) (by rfl) (by first | exact .inl rfl | exact .inr rfl | assumption)) (@pss_cons _ _ _ _ _ (@ps_if _ _ _ _ _ _ _ _ (@pt_cmpR _ _ _ _ _ _ _ _ op_gt (@pe_fn _ _ _ _ _ _ _ _ _ _ _ _ _ _ T.l_draw (ok_l_draw T) hr (by decide) (@pa_cons _ _ _ _ _ (pv 0) (@pa_cons _ _ _ _ _ (@pe_int _ _ _ _) (@pa_nil _) star_con) star_name) (by rfl) (by decide) (by rfl) (by rfl)) (@pe_int _ _ _ _) (nomark _)) (@pss_one _ _ _ (@ps_set _ _ 2 _ _ _ _ sc_l_fraction.nd rfl (Or.inl rfl) (@pe_callB _ _ _ _ _ _ _ _ _ (call_max2 rfl) (by rfl) T.b_max PyProof.Rows.boot_max (@pa_cons _ _ _ _ _ (@pe_int _ _ _ _) (@pa_cons _ _ _ _ _ (@pe_callB _ _ _ _ _ _ _ _ _ call_abs (by rfl) T.b_abs PyProof.Rows.boot_abs (@pa_cons _ _ _ _ _ (@pe_fn _ _ _ _ _ _ _ _ _ _ _ _ _ _ T.l_number (ok_l_number T) hr (by decide) (@pa_cons _ _ _ _ _ (pv 0) (@pa_nil _) star_name) (by rfl) (by decide) (by rfl) (by rfl)) (@pa_nil _) star_call) (by decide) (by decide) (by rfl) (by rfl)) (@pa_nil _) star_call) star_con) (by decide) (by decide) (by rfl) (by rfl)) (by rfl) (by first | exact .inl rfl | exact .inr rfl | assumption))) (@pss_nil _)) (@pss_cons _ _ _ _ _ (@ps_set _ _ 3 _ _ _ _ sc_l_fraction.nd rfl (Or.inl rfl) (@pe_fn _ _ _ _ _ _ _ _ _ _ _ _ _ _ T.l_divisor (ok_l_divisor T) hr (by decide) (@pa_cons _ _ _ _ _ (pv 2) (@pa_cons _ _ _ _ _ (pv 1) (@pa_nil _) star_name) star_name) (by rfl) (by decide) (by rfl) (by rfl)) (by rfl) (by first | exact .inl rfl | exact .inr rfl | assumption)) (@pss_one _ _ _ (@ps_ret _ _ _ _ (@pe_tup _ _ _ _ _ (@pa_cons _ _ _ _ _ (@pe_op _ _ _ _ _ _ _ _ op_fdivB (pv 1) (pv 3)) (@pa_cons _ _ _ _ _ (@pe_op _ _ _ _ _ _ _ _ op_fdivB (pv 2) (pv 3)) (@pa_nil _) star_bin) star_bin)))))))), ?_⟩
    refine st_setG (gv_number hh (pa_c (pu_v rfl) pa_n)) ?_
    rintro _ H1 ⟨⟨n, rfl, hn⟩, hh1, s1⟩
    refine st_set pu_c ?_
    refine st_ifRG (RB := fun _ H' => HandAt H' hd sc ∧ SameB hd H H') (fun σ' H' => HandAt H' hd sc ∧ SameB hd H H' ∧ ∃ m : Int, 0 < m ∧ m.natAbs < 10 ^ 60 ∧ σ' = [some (.ref hd), some (.int n), some (.int m), none]) (fun Q q => ?_) (fun H2 r D' q _ => ?_) (fun H2 r => ⟨r.1, r.2, 1, by decide, by decide, rfl⟩) ?_
    · refine gv_draw hh1 (pa_c (pu_v rfl) (pa_c pu_c pa_n)) (by decide) Bd.small _ ?_
      rintro _ H2 ⟨⟨m, rfl, _, _⟩, hh2, s2⟩
      exact ⟨m, 0, rfl, rfl, _, rfl, q _ _ ⟨hh2, s1.trans s2⟩⟩
    · refine st_setG1 (R := fun v H' => ∃ m : Int, v = .int m ∧ 0 < m ∧ m.natAbs < 10 ^ 60 ∧ HandAt H' hd sc ∧ SameB hd H H') (fun Q f => ?_) ?_
      · refine (show tCall sp_l_number [] E0 (tCons (tVar 0) tNil) [some (.ref hd), some (.int n), some (.int 1), none] H2 (fun v H' => ∃ i, [v] = [V.int i] ∧ ∃ i1 j1, [V.int 1, V.int (if i < 0 then -i else i)] = [V.int i1, V.int j1] ∧ Q (V.int (if j1 > i1 then j1 else i1)) H') from gv_number r.1 (pa_c (pu_v rfl) pa_n) _ ?_)
        rintro _ H3 ⟨⟨m, rfl, hm⟩, hh3, s3⟩
        refine ⟨m, rfl, 1, _, rfl, f _ _ ⟨_, rfl, ?_, ?_, hh3, r.2.trans s3⟩⟩
        · split <;> split <;> omega
        · split <;> split <;> omega
      · rintro _ H3 ⟨m, rfl, m0, m1, hh3, s3⟩
        exact q _ _ ⟨hh3, s3, m, m0, m1, rfl⟩
    rintro _ H2 ⟨hh2, s2, m, m0, m1, rfl⟩
    have eg : ((Int.gcd m n : Nat) : Int) = gS n m := by
      unfold gS
      rw [if_neg (by omega), Int.gcd_comm]
    have lh := low_has (n := n) (m := m) (by omega)
    have ll := low_le (n := n) (m := m) (by omega)
    have hne := gS_ne (a := n) (b := m) (by omega)
    have hbd := gS_bd (a := n) (by omega) (bd_60 m1)
    refine st_set (pu_call (pa_c (pu_v rfl) (pa_c (pu_v rfl) pa_n)) (fun Q q => ⟨m, n, rfl, q⟩)) ?_
    rw [eg]
    refine st_retG (gv_tup (pa_c (pu_fdiv (pu_v rfl) (pu_v rfl) ⟨hne, hbd.mono (by decide)⟩) (pa_c (pu_fdiv (pu_v rfl) (pu_v rfl) ⟨hne, hbd.mono (by decide)⟩) pa_n)) (by show 2 ≤ sizeLine; decide)) ?_
    rintro _ _ ⟨p, hp, rfl, rfl⟩
    obtain ⟨l1, l2, l3⟩ := lh
    exact k _ (n.fdiv (gS n m), m.fdiv (gS n m)) _ ⟨l1, l2, (bd_60 hn).le ll.1, (bd_60 m1).le ll.2⟩ ⟨Nat.lt_of_le_of_lt ll.1 hn, Nat.lt_of_le_of_lt ll.2 m1⟩ (TupT.of (ns := [n.fdiv (gS n m), m.fdiv (gS n m)]) upd_same) (hh2.same (Same.upd hp)) (s2.trans (Same.upd hp).b)
def sp_l_text : Sp := fun vs H Q _ => ∃ v f, vs = [v] ∧ TupT H v [f.1, f.2] ∧ FrL f ∧ Q (.str (shF f)) H
theorem sc_l_text : FnScope ["_law_one"] ["_law_one"] (defScope s_l_text) := ⟨rfl, rfl, rfl, by decide +kernel, rfl, by decide +kernel, by decide +kernel⟩
theorem ok_l_text (T : Txt K mg t w) : FnOk P w K mg base CX0 1 t.f_l_text t.d_l_text ["_law_one"] sp_l_text := by
  refine T.l_text.F.ok (k := 0) sc_l_text (fun vs H Q E h => ?_) (fun cdv A outer s H vs Q E hr h => ?_)
  · obtain ⟨v, f, rfl, _⟩ := h
    rfl
  · obtain ⟨v, f, rfl, ⟨a, rfl, ha⟩, fl, k⟩ := h
    refine ⟨_, (@pss_cons _ _ _ _ _ (@ps_if _ _ _ _ _ _ _ _ (@pt_cmpR _ _ _ _ _ _ _ _ op_eq (@pe_ix _ _ _ _ _ _ _ ix_tup (pv 0) (@pe_int _ _ _ _) (fun _ _ => rfl)) (@pe_int _ _ _ _) (nomark _)) (@pss_one _ _ _ (@ps_ret _ _ _ _ (@pe_callTy _ _ _ _ _ _ _ _ _ call_str_int (by rfl) T.b_str PyProof.Rows.boot_str (@pa_cons _ _ _ _ _ (@pe_ix _ _ _ _ _ _ _ ix_tup (pv 0) (@pe_int _ _ _ _) (fun _ _ => rfl)) (@pa_nil _) star_sub) (by decide) (by decide) (by rfl) (by rfl)))) (@pss_nil _)) (@pss_one _ _ _ (@ps_ret _ _ _ _ (@pe_op _ _ _ _ _ _ _ _ op_add_str (@pe_op _ _ _ _ _ _ _ _ op_add_str (@pe_callTy _ _ _ _ _ _ _ _ _ call_str_int (by rfl) T.b_str PyProof.Rows.boot_str (@pa_cons _ _ _ _ _ (@pe_ix _ _ _ _ _ _ _ ix_tup (pv 0) (@pe_int _ _ _ _) (fun _ _ => rfl)) (@pa_nil _) star_sub) (by decide) (by decide) (by rfl) (by rfl)) (@pe_str _ _ _ _)) (@pe_callTy _ _ _ _ _ _ _ _ _ call_str_int (by rfl) T.b_str PyProof.Rows.boot_str (@pa_cons _ _ _ _ _ (@pe_ix _ _ _ _ _ _ _ ix_tup (pv 0) (@pe_int _ _ _ _) (fun _ _ => rfl)) (@pa_nil _) star_sub) (by decide) (by decide) (by rfl) (by rfl)))))), ?_⟩
    have big : 10000 ≤ sizeLine := by decide
    have l1 := tx_len4 fl.b1
    have l2 := tx_len4 fl.b2
    have l3 : (Str.ofString "/").length = 1 := by decide +kernel
    refine st_ifN (pt_t (pu_eqI (pu_ixT (pu_v rfl) pu_c (SqT.of (ha)) rfl) pu_c)) (fun e => ?_) fun e => ?_
    · have e' : f.2 = 1 := of_decide_eq_true e
      have es : shF f = tx f.1 := by unfold shF; rw [if_pos e']
      rw [es] at k
      exact st_ret (pu_strI (pa_c (pu_ixT (pu_v rfl) pu_c (SqT.of (ha)) rfl) pa_n) (fl.b1.mono (by decide))) k
    · have e' : ¬ f.2 = 1 := of_decide_eq_false e
      have es : shF f = tx f.1 ++ Str.ofString "/" ++ tx f.2 := by unfold shF; rw [if_neg e']
      rw [es] at k
      exact st_ret (pu_addS (pu_addS (pu_strI (pa_c (pu_ixT (pu_v rfl) pu_c (SqT.of (ha)) rfl) pa_n) (fl.b1.mono (by decide))) pu_c (by omega)) (pu_strI (pa_c (pu_ixT (pu_v rfl) pu_c (SqT.of (ha)) rfl) pa_n) (fl.b2.mono (by decide))) (by rw [app_len]; omega)) k
def sp_l_point_by : Sp := fun vs H Q _ => ∃ v w x y, vs = [v, w] ∧ TupT H v [x.1, x.2] ∧ TupT H w [y.1, y.2] ∧ FrL x ∧ FrL y ∧ ∀ r H', Same H H' → AtP H' r (ptF x y) → Q r H'
theorem gv_pby {σ : L2.St} {H : Hp} {t : TA} {v w : V} {x y : Int × Int} (ha : PuA t σ H [v, w]) (hv : TupT H v [x.1, x.2]) (hw : TupT H w [y.1, y.2]) (fx : FrL x) (fy : FrL y) : Gv (tCall sp_l_point_by [] E0 t) σ H (fun r H' => Same H H' ∧ AtP H' r (ptF x y)) :=
  gv_call ha fun Q f => ⟨v, w, x, y, rfl, hv, hw, fx, fy, fun r H' s t => f _ _ ⟨s, t⟩⟩
theorem sc_l_point_by : FnScope ["_law_x", "_law_y"] ["_law_x", "_law_y"] (defScope s_l_point_by) := ⟨rfl, rfl, rfl, by decide +kernel, rfl, by decide +kernel, by decide +kernel⟩
theorem ok_l_point_by (T : Txt K mg t w) : FnOk P w K mg base CX0 3 t.f_l_point_by t.d_l_point_by ["_law_x", "_law_y"] sp_l_point_by := by
  refine T.l_point_by.F.ok (k := 2) sc_l_point_by (fun vs H Q E h => ?_) (fun cdv A outer s H vs Q E hr h => ?_)
  · obtain ⟨v, w, x, y, rfl, _⟩ := h
    rfl
  · obtain ⟨v, w, x, y, rfl, ⟨a, rfl, ha⟩, ⟨b, rfl, hb⟩, fx, fy, k⟩ := h
    refine ⟨_, (@pss_one _ _ _ (@ps_ret _ _ _ _ (@pe_fn _ _ _ _ _ _ _ _ _ _ _ _ _ _ T.l_point (ok_l_point T) hr (by decide) (@pa_cons _ _ _ _ _ (@pe_op _ _ _ _ _ _ _ _ op_mulB (@pe_ix _ _ _ _ _ _ _ ix_tup (pv 0) (@pe_int _ _ _ _) (fun _ _ => rfl)) (@pe_ix _ _ _ _ _ _ _ ix_tup (pv 1) (@pe_int _ _ _ _) (fun _ _ => rfl))) (@pa_cons _ _ _ _ _ (@pe_op _ _ _ _ _ _ _ _ op_mulB (@pe_ix _ _ _ _ _ _ _ ix_tup (pv 1) (@pe_int _ _ _ _) (fun _ _ => rfl)) (@pe_ix _ _ _ _ _ _ _ ix_tup (pv 0) (@pe_int _ _ _ _) (fun _ _ => rfl))) (@pa_cons _ _ _ _ _ (@pe_op _ _ _ _ _ _ _ _ op_mulB (@pe_ix _ _ _ _ _ _ _ ix_tup (pv 0) (@pe_int _ _ _ _) (fun _ _ => rfl)) (@pe_ix _ _ _ _ _ _ _ ix_tup (pv 1) (@pe_int _ _ _ _) (fun _ _ => rfl))) (@pa_nil _) star_bin) star_bin) star_bin) (by rfl) (by decide) (by rfl) (by rfl)))), ?_⟩
    refine st_retG (gv_point (pa_c (pu_mul (pu_ixT (pu_v rfl) pu_c (SqT.of (ha)) rfl) (pu_ixT (pu_v rfl) pu_c (SqT.of (hb)) rfl) (mulOk_of fx.b1 fy.b2 (by decide))) (pa_c (pu_mul (pu_ixT (pu_v rfl) pu_c (SqT.of (hb)) rfl) (pu_ixT (pu_v rfl) pu_c (SqT.of (ha)) rfl) (mulOk_of fy.b1 fx.b2 (by decide))) (pa_c (pu_mul (pu_ixT (pu_v rfl) pu_c (SqT.of (ha)) rfl) (pu_ixT (pu_v rfl) pu_c (SqT.of (hb)) rfl) (mulOk_of fx.b2 fy.b2 (by decide))) pa_n))) (ptF_z fx fy) ((fx.b2.mul fy.b2).mono (by decide))) ?_
    rintro r H' ⟨s, q, hq, iq⟩
    refine k r H' s ?_
    unfold ptF
    rw [pb_is3 (Int.ne_of_gt (ptF_z fx fy)) iq]
    exact hq
def sp_l_name : Sp := fun vs H Q _ => ∃ hd sc, vs = [.ref hd] ∧ HandAt H hd sc ∧ ∀ (x : Str) H', nameOk x = true → HandAt H' hd sc → SameB hd H H' → Q (.str x) H'
theorem gv_name {σ : L2.St} {H : Hp} {hd sc : Addr} {t : TA} (hh : HandAt H hd sc) (ha : PuA t σ H [.ref hd]) : Gv (tCall sp_l_name [] E0 t) σ H (fun v H' => (∃ x, v = .str x ∧ nameOk x = true) ∧ HandAt H' hd sc ∧ SameB hd H H') :=
  gv_call ha fun Q f => ⟨hd, sc, rfl, hh, fun n H' hb a s => f _ _ ⟨⟨n, rfl, hb⟩, a, s⟩⟩
def tenWords : List Str := [Str.ofString "in", Str.ofString "no", Str.ofString "both", Str.ofString "any", Str.ofString "round", Str.ofString "least", Str.ofString "inn", Str.ofString "noboth", Str.ofString "a", Str.ofString "leastest"]
theorem sc_l_name : FnScope ["_law_hand_here", "_law_words", "_law_letters"] ["_law_hand_here"] (defScope s_l_name) := ⟨rfl, rfl, rfl, by decide +kernel, rfl, by decide +kernel, by decide +kernel⟩
theorem ok_l_name (T : Txt K mg t w) : FnOk P w K mg base CX0 4 t.f_l_name t.d_l_name ["_law_hand_here"] sp_l_name := by
  refine T.l_name.F.ok (k := 3) sc_l_name (fun vs H Q E h => ?_) (fun cdv A outer s H vs Q E hr h => ?_)
  · obtain ⟨hd, sc, rfl, _⟩ := h
    rfl
  · obtain ⟨hd, sc, rfl, hh, k⟩ := h
    refine ⟨_, (@pss_cons _ _ _ _ _ (@ps_set _ _ 1 _ _ _ _ sc_l_name.nd rfl (Or.inl rfl) (@pe_lst _ _ _ _ (@pa_cons _ _ _ _ _ (@pe_str _ _ _ _) (@pa_cons _ _ _ _ _ (@pe_str _ _ _ _) (@pa_cons _ _ _ _ _ (@pe_str _ _ _ _) (@pa_cons _ _ _ _ _ (@pe_str _ _ _ _) (@pa_cons _ _ _ _ _ (@pe_str _ _ _ _) (@pa_cons _ _ _ _ _ (@pe_str _ _ _ _) (@pa_cons _ _ _ _ _ (@pe_str _ _ _ _) (@pa_cons _ _ _ _ _ (@pe_str _ _ _ _) (@pa_cons _ _ _ _ _ (@pe_str _ _ _ _) (@pa_cons _ _ _ _ _ (@pe_str _ _ _ _) (@pa_nil _) star_con) star_con) star_con) star_con) star_con) star_con) star_con) star_con) star_con) star_con)) (by rfl) (by first | exact .inl rfl | exact .inr rfl | assumption)) (@pss_cons _ _ _ _ _ (@ps_if _ _ _ _ _ _ _ _ (@pt_cmpR _ _ _ _ _ _ _ _ op_eq (@pe_fn _ _ _ _ _ _ _ _ _ _ _ _ _ _ T.l_draw (ok_l_draw T) hr (by decide) (@pa_cons _ _ _ _ _ (pv 0) (@pa_cons _ _ _ _ _ (@pe_int _ _ _ _) (@pa_nil _) star_con) star_name) (by rfl) (by decide) (by rfl) (by rfl)) (@pe_int _ _ _ _) (nomark _)) (@pss_one _ _ _ (@ps_ret _ _ _ _ (@pe_ix _ _ _ _ _ _ _ ix_list (pv 1) (@pe_fn _ _ _ _ _ _ _ _ _ _ _ _ _ _ T.l_draw (ok_l_draw T) hr (by decide) (@pa_cons _ _ _ _ _ (pv 0) (@pa_cons _ _ _ _ _ (@pe_int _ _ _ _) (@pa_nil _) star_con) star_name) (by rfl) (by decide) (by rfl) (by rfl)) (fun _ _ => rfl)))) (@pss_nil _)) (@pss_cons _ _ _ _ _ (@ps_set _ _ 2 _ _ _ _ sc_l_name.nd rfl (Or.inr rfl) (@pe_str _ _ _ _) (by rfl) (by first | exact .inl rfl | exact .inr rfl | assumption)) (@pss_one _ _ _ (@ps_ret _ _ _ _ (@pe_bm _ _ _ _ _ _ _ _ _ _ _ _ PySem.F.plainAttrs_str PySem.F.slot_str_join PySem.F.type_str_join mt_join (@pe_str _ _ _ _) (@pa_cons _ _ _ _ _ (@pe_lcompD _ "_law_k" "_law_letters" "_law_hand_here" _ _ _ _ _ _ _ _ _ 2 0 rfl (@pi_range1 _ _ _ _ _ _ rfl T.b_range (@pa_cons _ _ _ _ _ (@pe_op _ _ _ _ _ _ _ _ op_add (@pe_int _ _ _ _) (@pe_fn _ _ _ _ _ _ _ _ _ _ _ _ _ _ T.l_draw (ok_l_draw T) hr (by decide) (@pa_cons _ _ _ _ _ (pv 0) (@pa_cons _ _ _ _ _ (@pe_int _ _ _ _) (@pa_nil _) star_con) star_name) (by rfl) (by decide) (by rfl) (by rfl))) (@pa_nil _) star_bin) (by rfl)) (fun _ _ _ _ => pg_name (i := 0) (show (["_law_k", "_law_letters", "_law_hand_here"] : List Str).Nodup from by decide +kernel) rfl (Or.inl rfl) (.inr rfl)) (fun _ _ _ _ => (@pe_ix _ _ _ _ _ _ _ ix_str (pv 1) (@pe_fn _ _ _ _ _ _ _ _ _ _ _ _ _ _ T.l_draw (ok_l_draw T) hr (by decide) (@pa_cons _ _ _ _ _ (pv 2) (@pa_cons _ _ _ _ _ (@pe_int _ _ _ _) (@pa_nil _) star_con) star_name) (by rfl) (by decide) (by rfl) (by rfl)) (fun _ _ => rfl))) rfl rfl (by decide +kernel) (by decide +kernel) (And.intro rfl (And.intro rfl (And.intro rfl rfl))) (And.intro rfl (And.intro rfl (And.intro rfl rfl))) rfl (by intro _; rfl)) (@pa_nil _) star_lc) (by rfl) (by rfl) (by rfl) (by rfl) (by rfl))))))), ?_⟩
    refine st_setG (gv_lst (vs := tenWords.map V.str) (pa_c pu_c (pa_c pu_c (pa_c pu_c (pa_c pu_c (pa_c pu_c (pa_c pu_c (pa_c pu_c (pa_c pu_c (pa_c pu_c (pa_c pu_c pa_n)))))))))) (by decide)) ?_
    rintro _ _ ⟨lw, hlw, rfl, rfl⟩
    have s1 : Same H (upd H lw (.lst (tenWords.map V.str))) := Same.upd hlw
    have hh1 := hh.same s1
    have nw := hh.fresh hlw
    have w1 : (upd H lw (.lst (tenWords.map V.str))) lw = some (.lst (tenWords.map V.str)) := upd_same
    revert s1 hh1 w1
    generalize upd H lw (.lst (tenWords.map V.str)) = H1
    intro s1 hh1 w1
    refine st_ifNG (R := fun _ H' => HandAt H' hd sc ∧ SameB hd H1 H') (fun Q q => ?_) (fun H2 r => ?_) (fun H2 r => ?_)
    · refine gv_draw hh1 (pa_c (pu_v rfl) (pa_c pu_c pa_n)) (by decide) Bd.small _ ?_
      rintro _ H2 ⟨⟨m, rfl, _, _⟩, hh2, s2⟩
      exact ⟨rfl, _, rfl, q _ _ ⟨hh2, s2⟩⟩
    · refine st_retG (R := fun v H' => ∃ x, v = .str x ∧ nameOk x = true ∧ HandAt H' hd sc ∧ SameB hd H H') (fun Q q => ?_) fun v H' z => by obtain ⟨x, rfl, a, b, c⟩ := z; exact k x H' a b c
      refine pu_v (v := .ref lw) rfl _ (gv_draw r.1 (pa_c (pu_v rfl) (pa_c pu_c pa_n)) (by decide) Bd.small _ ?_)
      rintro _ H3 ⟨⟨m, rfl, m0, m1⟩, hh3, s3⟩
      have w3 := s3 _ _ (r.2 _ _ w1 nw.1) nw.1
      have hm : m.toNat < tenWords.length := by show m.toNat < 10; omega
      have hat : atI (tenWords.map V.str) m = some (.str tenWords[m.toNat]) := by
        have := atI_nat (xs := tenWords.map V.str) (j := m.toNat) (v := .str tenWords[m.toNat]) (by simp [hm])
        rwa [show ((m.toNat : Nat) : Int) = m by omega] at this
      have good : ∀ x ∈ tenWords, nameOk x = true := by decide +kernel
      exact ⟨lw, _, m, _, rfl, rfl, SqL.of w3, hat, q _ _ ⟨_, rfl, good _ (List.getElem_mem hm), hh3, (s1.b.trans r.2).trans s3⟩⟩
    · refine st_set pu_c ?_
      refine st_retG (R := fun v H' => ∃ x, v = .str x ∧ nameOk x = true ∧ HandAt H' hd sc ∧ SameB hd H H') (gv_join (R := fun v H' => ∃ (D : Addr) (cs : List Nat), v = .ref D ∧ 1 ≤ cs.length ∧ cs.length ≤ 8 ∧ (∀ c ∈ cs, c ∈ letters.cps.toList) ∧ H' D = some (.lst ((cs.map fun c => (⟨#[c]⟩ : Str)).map V.str)) ∧ HandAt H' hd sc ∧ SameB hd H H') (fun _ => pu_c) (gv_compRG (ga_cons (gv_draw1 (m := 8) r.1 (pa_c (pu_v rfl) (pa_c pu_c pa_n)) (by decide) Bd.small) fun _ _ _ => ga_nil) ?_) ?_) fun v H' z => by obtain ⟨x, rfl, a, b, c⟩ := z; exact k x H' a b c
      · rintro _ H3 ⟨_, _, r', rfl, ⟨⟨z, rfl, z0, z1⟩, hh3, s3⟩, rfl, rfl⟩
        obtain ⟨ys3, hys3⟩ := hh3.ls
        refine ⟨z, rfl, by omega, by omega, (gv_compR (fun D i ys H' => HandAt H' hd sc ∧ SameB hd H3 H' ∧ H' D = some (.lst ys) ∧ ∃ cs : List Nat, cs.length = i ∧ ys = (cs.map fun c => (⟨#[c]⟩ : Str)).map V.str ∧ ∀ c ∈ cs, c ∈ letters.cps.toList) (pa_c pu_c pa_n) (by omega) (by omega) (fun x => (KeepS.refl _).cons (some x)) (fun D hD => ⟨hh3.same (Same.upd hD), (Same.upd hD).b, upd_same, [], rfl, rfl, fun f hf => (nomatch hf)⟩) ?_).imp ?_⟩
        · rintro D i' ys H9 hD hi' ⟨hh9, s9, hD9, cs, hcl, rfl, hcs⟩
          have nD : D ≠ hd := fun z => by rw [z, hys3] at hD; cases hD
          refine ⟨small1000 (by rw [List.length_map, List.length_map]; omega), fun Q q => ?_⟩
          refine pu_v (v := .str (Str.ofString "abcdefghijklmnopqrstuvwxyz")) rfl _ (gv_draw hh9 (pa_c (pu_v rfl) (pa_c pu_c pa_n)) (by decide) Bd.small _ ?_)
          rintro _ H10 ⟨⟨m, rfl, m0, m1⟩, hh10, s10⟩
          have l26 : letters.cps.toList.length = 26 := by decide +kernel
          have hm : m.toNat < letters.cps.toList.length := by rw [l26]; omega
          have hat : atI letters.cps.toList m = some letters.cps.toList[m.toNat] := by
            have := atI_nat (xs := letters.cps.toList) (j := m.toNat) (v := letters.cps.toList[m.toNat]) (List.getElem?_eq_getElem hm)
            rwa [show ((m.toNat : Nat) : Int) = m by omega] at this
          have hD' := s10 _ _ hD9 nD
          refine ⟨_, m, _, rfl, rfl, by decide +kernel, hat, q _ _ ⟨hD', hh10.upd ⟨nD, fun z => ?_⟩, ?_, upd_same, cs ++ [letters.cps.toList[m.toNat]], by simp [hcl], by simp, ?_⟩⟩
          · obtain ⟨ns, i, b, c, p, q', g1, g2, _⟩ := hh3
            rw [z, g2] at hD
            cases hD
          · intro b o e n
            rw [upd_ne (ne_of_none e hD)]
            exact (s9.trans s10) b o e n
          · intro c hc
            rcases List.mem_append.mp hc with hc | hc
            · exact hcs c hc
            · rw [List.mem_singleton.mp hc]
              exact List.getElem_mem hm
        · rintro v H9 ⟨D, ys, hD, rfl, hh9, s9, hD9, cs, hcl, rfl, hcs⟩
          exact ⟨D, cs, rfl, by omega, by omega, hcs, hD9, hh9, ((s1.b.trans r.2).trans s3).trans s9⟩
      · rintro _ H3 ⟨D, cs, rfl, c1, c8, hcs, hD, hh3, s3⟩
        refine ⟨D, _, rfl, hD, joinOk_of (b := 1) (m := 8) (fun t ht => ?_) (by rw [List.length_map]; exact c8) (by decide +kernel), _, rfl, ?_, hh3, s3⟩
        · obtain ⟨c, _, rfl⟩ := List.mem_map.mp ht
          exact Nat.le_refl 1
        · have e := join_signs cs
          unfold nameOk
          rw [← L2.len_list, e, decide_eq_true c1, decide_eq_true c8]
          simpa using hcs
def small (k : Int) : Prop := k.natAbs < 10 ^ 60
def sp_l_wish (n : Nat) : Sp := fun vs H Q _ => ∃ hd sc, vs = [.ref hd, .int (n : Int)] ∧ 1 ≤ n ∧ HandAt H hd sc ∧ ∀ v (u : Wi) H', DAt hd H' v u.d → u.names → u.nums small → u.deep ≤ n → HandAt H' hd sc → SameB hd H H' → Q v H'
theorem sc_l_wish : FnScope ["_law_hand_here", "_law_deep", "_law_way", "_law_name_here", "_law_one"] ["_law_hand_here", "_law_deep"] (defScope s_l_wish) := ⟨rfl, rfl, rfl, by decide +kernel, rfl, by decide +kernel, by decide +kernel⟩
theorem gv_wish {n : Nat} {σ : L2.St} {H : Hp} {hd sc : Addr} {t : TA} (hn : 1 ≤ n) (hh : HandAt H hd sc) (ha : PuA t σ H [.ref hd, .int (n : Int)]) : Gv (tCall (sp_l_wish n) [] E0 t) σ H (fun v H' => (∃ u : Wi, DAt hd H' v u.d ∧ u.names ∧ u.nums small ∧ u.deep ≤ n) ∧ HandAt H' hd sc ∧ SameB hd H H') :=
  gv_call ha fun Q f => ⟨hd, sc, rfl, hn, hh, fun v u H' h1 h2 h3 h4 a s => f _ _ ⟨⟨u, h1, h2, h3, h4⟩, a, s⟩⟩
/-- ['both', 'any'][way % 2] -/
theorem gv_two {K : PySem.W.Frag} {σ : L2.St} {H : Hp} {m : Int} (h2 : σ[2]? = some (some (.int m))) : Gv (tOp (rIxL K) (tLst (tCons (tC (.str (Str.ofString "both"))) (tCons (tC (.str (Str.ofString "any"))) tNil))) (tOp (rI (fun _ j => j ≠ 0) fun i j => .int (i.fmod j)) (tVar 2) (tC (.int 2)))) σ H (fun v H' => ∃ b : Bool, v = .str (if b then Str.ofString "any" else Str.ofString "both") ∧ Same H H') := by
  intro Q q
  refine gv_lst (pa_c (pu_c (v := .str (Str.ofString "both"))) (pa_c (pu_c (v := .str (Str.ofString "any"))) pa_n)) len2 _ ?_
  rintro _ _ ⟨p, hp, rfl, rfl⟩
  have e : m.fmod 2 = m % 2 := Int.fmod_eq_emod_of_nonneg _ (by decide)
  have hm2 : m.fmod 2 = 0 ∨ m.fmod 2 = 1 := by omega
  have hix : ∃ b : Bool, atI [V.str (Str.ofString "both"), V.str (Str.ofString "any")] (m.fmod 2) = some (.str (if b then Str.ofString "any" else Str.ofString "both")) := by
    rcases hm2 with z | z
    · exact ⟨false, by rw [z]; rfl⟩
    · exact ⟨true, by rw [z]; rfl⟩
  obtain ⟨b, hix⟩ := hix
  exact (pu_mod (pu_v h2) (pu_c (v := .int 2)) (by decide)) _ ⟨p, _, _, _, rfl, rfl, SqL.of upd_same, hix, q _ _ ⟨b, rfl, Same.upd hp⟩⟩
theorem okA_wish (T : Txt K mg t w) {n k : Nat} (GP : FnOk P w K mg base CX0 k t.f_l_wish t.d_l_wish ["_law_hand_here", "_law_deep"] (sp_l_wish n)) (hk : 8 ≤ k) : FnOk P w K mg base CX0 (k + 1) t.f_l_wish t.d_l_wish ["_law_hand_here", "_law_deep"] (sp_l_wish (n + 1)) := by
  have ok_l_wish := fun (_ : Txt K mg t w) => GP
  refine T.l_wish.F.ok (k := k) sc_l_wish (fun vs H Q E h => ?_) (fun cdv A outer s H vs Q E hr h => ?_)
  · obtain ⟨hd, sc, rfl, _⟩ := h
    rfl
  · obtain ⟨hd, sc, rfl, _, hh, k⟩ := h
    refine ⟨_, (@pss_cons _ _ _ _ _ (@ps_set _ _ 2 _ _ _ _ sc_l_wish.nd rfl (Or.inl rfl) (@pe_fn _ _ _ _ _ _ _ _ _ _ _ _ _ _ T.l_draw (ok_l_draw T) hr (by omega) (@pa_cons _ _ _ _ _ (pv 0) (@pa_cons _ _ _ _ _ (@pe_int _ _ _ _) (@pa_nil _) star_con) star_name) (by rfl) (by decide) (by rfl) (by rfl)) (by rfl) (by first | exact .inl rfl | exact .inr rfl | assumption)) (@pss_cons _ _ _ _ _ (@ps_if _ _ _ _ _ _ _ _ (@pt_cmpR _ _ _ _ _ _ _ _ op_eq (pv 1) (@pe_int _ _ _ _) (nomark _)) (@pss_one _ _ _ (@ps_set _ _ 2 _ _ _ _ sc_l_wish.nd rfl (Or.inl rfl) (@pe_op _ _ _ _ _ _ _ _ op_modN (pv 2) (@pe_int _ _ _ _)) (by rfl) (by first | exact .inl rfl | exact .inr rfl | assumption))) (@pss_nil _)) (@pss_cons _ _ _ _ _ (@ps_if _ _ _ _ _ _ _ _ (@pt_cmpR _ _ _ _ _ _ _ _ op_eq (pv 2) (@pe_int _ _ _ _) (nomark _)) (@pss_one _ _ _ (@ps_ret _ _ _ _ (@pe_tup _ _ _ _ _ (@pa_cons _ _ _ _ _ (@pe_str _ _ _ _) (@pa_cons _ _ _ _ _ (@pe_fn _ _ _ _ _ _ _ _ _ _ _ _ _ _ T.l_name (ok_l_name T) hr (by omega) (@pa_cons _ _ _ _ _ (pv 0) (@pa_nil _) star_name) (by rfl) (by decide) (by rfl) (by rfl)) (@pa_nil _) star_call) star_con)))) (@pss_nil _)) (@pss_cons _ _ _ _ _ (@ps_if _ _ _ _ _ _ _ _ (@pt_cmpR _ _ _ _ _ _ _ _ op_eq (pv 2) (@pe_int _ _ _ _) (nomark _)) (@pss_cons _ _ _ _ _ (@ps_set _ _ 3 _ _ _ _ sc_l_wish.nd rfl (Or.inl rfl) (@pe_fn _ _ _ _ _ _ _ _ _ _ _ _ _ _ T.l_name (ok_l_name T) hr (by omega) (@pa_cons _ _ _ _ _ (pv 0) (@pa_nil _) star_name) (by rfl) (by decide) (by rfl) (by rfl)) (by rfl) (by first | exact .inl rfl | exact .inr rfl | assumption)) (@pss_one _ _ _ (@ps_ret _ _ _ _ (@pe_tup _ _ _ _ _ (@pa_cons _ _ _ _ _ (@pe_str _ _ _ _) (@pa_cons _ _ _ _ _ (pv 3) (@pa_cons _ _ _ _ _ (@pe_fn _ _ _ _ _ _ _ _ _ _ _ _ _ _ T.l_number (ok_l_number T) hr (by omega) (@pa_cons _ _ _ _ _ (pv 0) (@pa_nil _) star_name) (by rfl) (by decide) (by rfl) (by rfl)) (@pa_nil _) star_call) star_name) star_con))))) (@pss_nil _)) (@pss_cons _ _ _ _ _ (@ps_if _ _ _ _ _ _ _ _ (@pt_cmpR _ _ _ _ _ _ _ _ op_eq (pv 2) (@pe_int _ _ _ _) (nomark _)) (@pss_one _ _ _ (@ps_ret _ _ _ _ (@pe_tup _ _ _ _ _ (@pa_cons _ _ _ _ _ (@pe_str _ _ _ _) (@pa_cons _ _ _ _ _ (@pe_fn _ _ _ _ _ _ _ _ _ _ _ _ _ _ T.l_number (ok_l_number T) hr (by omega) (@pa_cons _ _ _ _ _ (pv 0) (@pa_nil _) star_name) (by rfl) (by decide) (by rfl) (by rfl)) (@pa_nil _) star_call) star_con)))) (@pss_nil _)) (@pss_cons _ _ _ _ _ (@ps_set _ _ 4 _ _ _ _ sc_l_wish.nd rfl (Or.inl rfl) (@pe_fn _ _ _ _ _ _ _ _ _ _ _ _ _ _ T.l_wish (ok_l_wish T) hr (by omega) (@pa_cons _ _ _ _ _ (pv 0) (@pa_cons _ _ _ _ _ (@pe_op _ _ _ _ _ _ _ _ op_sub (pv 1) (@pe_int _ _ _ _)) (@pa_nil _) star_bin) star_name) (by rfl) (by decide) (by rfl) (by rfl)) (by rfl) (by first | exact .inl rfl | exact .inr rfl | assumption)) (@pss_cons _ _ _ _ _ (@ps_if _ _ _ _ _ _ _ _ (@pt_cmpR _ _ _ _ _ _ _ _ op_eq (pv 2) (@pe_int _ _ _ _) (nomark _)) (@pss_one _ _ _ (@ps_ret _ _ _ _ (@pe_tup _ _ _ _ _ (@pa_cons _ _ _ _ _ (@pe_str _ _ _ _) (@pa_cons _ _ _ _ _ (pv 4) (@pa_nil _) star_name) star_con)))) (@pss_nil _)) (@pss_one _ _ _ (@ps_ret _ _ _ _ (@pe_tup _ _ _ _ _ (@pa_cons _ _ _ _ _ (@pe_ix _ _ _ _ _ _ _ ix_list (@pe_lst _ _ _ _ (@pa_cons _ _ _ _ _ (@pe_str _ _ _ _) (@pa_cons _ _ _ _ _ (@pe_str _ _ _ _) (@pa_nil _) star_con) star_con)) (@pe_op _ _ _ _ _ _ _ _ op_modN (pv 2) (@pe_int _ _ _ _)) (fun _ _ => rfl)) (@pa_cons _ _ _ _ _ (pv 4) (@pa_cons _ _ _ _ _ (@pe_fn _ _ _ _ _ _ _ _ _ _ _ _ _ _ T.l_wish (ok_l_wish T) hr (by omega) (@pa_cons _ _ _ _ _ (pv 0) (@pa_cons _ _ _ _ _ (@pe_op _ _ _ _ _ _ _ _ op_sub (pv 1) (@pe_int _ _ _ _)) (@pa_nil _) star_bin) star_name) (by rfl) (by decide) (by rfl) (by rfl)) (@pa_nil _) star_call) star_name) star_sub))))))))))), ?_⟩
    refine st_setG (gv_draw hh (pa_c (pu_v rfl) (pa_c pu_c pa_n)) (by decide) Bd.small) ?_
    rintro _ H1 ⟨⟨m0, rfl, m00, m01⟩, hh1, s1⟩
    refine st_ifSet (R := fun v H' => ∃ m : Int, v = .int m ∧ 0 ≤ m ∧ m < 8 ∧ (n = 0 → m < 3) ∧ H1 = H') (v0 := .int m0) (pt_t (pu_eqI (pu_v rfl) pu_c)) (fun _ => Pu.gv' (pu_mod (pu_v rfl) pu_c (by decide)) ⟨_, rfl, ?_⟩) rfl (fun e => ⟨m0, rfl, m00, m01, fun z => ?_, rfl⟩) ?_
    · have e : m0.fmod 3 = m0 % 3 := Int.fmod_eq_emod_of_nonneg _ (by decide)
      rw [e]
      refine ⟨Int.emod_nonneg _ (by decide), ?_, fun _ => Int.emod_lt_of_pos _ (by decide), rfl⟩
      have := Int.emod_lt_of_pos m0 (show (0 : Int) < 3 by decide)
      omega
    · have := of_decide_eq_false e
      exact absurd (by omega) this
    rintro _ _ ⟨m, rfl, b0, b1, b3, rfl⟩
    have fin : ∀ {v : V} {H' : Hp} (u : Wi), DAt hd H' v u.d → u.names → u.nums small → u.deep ≤ n + 1 → HandAt H' hd sc → SameB hd H1 H' → Q v H' := fun {v H'} u h1 h2 h3 h4 h5 h6 => k v u H' h1 h2 h3 h4 h5 (s1.trans h6)
    refine st_ifN (pt_t (pu_eqI (pu_v rfl) pu_c)) (fun _ => ?_) (fun c0 => ?_)
    · refine st_retG (R := fun v H' => Q v H') (gv_tupA (RA := fun vs H' => ∃ x, vs = [.str (Str.ofString "in"), .str x] ∧ nameOk x = true ∧ HandAt H' hd sc ∧ SameB hd H1 H') (fun Q2 q2 => pu_c (v := .str (Str.ofString "in")) _ (gv_name hh1 (pa_c (pu_v rfl) pa_n) _ fun v H' ⟨⟨x, e, nx⟩, a, s⟩ => by subst e; exact q2 _ _ ⟨x, rfl, nx, a, s⟩)) ?_) fun _ _ z => z
      rintro _ H2 ⟨x, rfl, nx, hh2, s2⟩
      exact ⟨len2, fun a ha => fin (.inn x) (.tup upd_same (.cons (.str _ (by decide +kernel)) (.cons (.str _ (nAsc nx)) .nil))) nx trivial (Nat.succ_le_succ (Nat.zero_le _)) (hh2.same (Same.upd ha)) (s2.trans (Same.upd ha).b)⟩
    refine st_ifN (pt_t (pu_eqI (pu_v rfl) pu_c)) (fun _ => ?_) (fun c1 => ?_)
    · refine st_setG (gv_name hh1 (pa_c (pu_v rfl) pa_n)) ?_
      rintro _ H2 ⟨⟨x, rfl, nx⟩, hh2, s2⟩
      refine st_retG (R := fun v H' => Q v H') (gv_tupA (RA := fun vs H' => ∃ z : Int, vs = [.str (Str.ofString "round"), .str x, .int z] ∧ small z ∧ HandAt H' hd sc ∧ SameB hd H1 H') (fun Q2 q2 => pu_c (v := .str (Str.ofString "round")) _ ((pu_v rfl : Pu (tVar 3) _ _ (.str x)) _ (gv_number hh2 (pa_c (pu_v rfl) pa_n) _ fun v H' ⟨⟨z, e, nz⟩, a, s⟩ => by subst e; exact q2 _ _ ⟨z, rfl, nz, a, s2.trans s⟩))) ?_) fun _ _ z => z
      rintro _ H3 ⟨z, rfl, nz, hh3, s3⟩
      exact ⟨len3, fun a ha => fin (.rnd x z) (.tup upd_same (.cons (.str _ (by decide +kernel)) (.cons (.str _ (nAsc nx)) (.cons (.int z) .nil)))) nx nz (Nat.succ_le_succ (Nat.zero_le _)) (hh3.same (Same.upd ha)) (s3.trans (Same.upd ha).b)⟩
    refine st_ifN (pt_t (pu_eqI (pu_v rfl) pu_c)) (fun _ => ?_) (fun c2 => ?_)
    · refine st_retG (R := fun v H' => Q v H') (gv_tupA (RA := fun vs H' => ∃ z : Int, vs = [.str (Str.ofString "least"), .int z] ∧ small z ∧ HandAt H' hd sc ∧ SameB hd H1 H') (fun Q2 q2 => pu_c (v := .str (Str.ofString "least")) _ (gv_number hh1 (pa_c (pu_v rfl) pa_n) _ fun v H' ⟨⟨z, e, nz⟩, a, s⟩ => by subst e; exact q2 _ _ ⟨z, rfl, nz, a, s⟩)) ?_) fun _ _ z => z
      rintro _ H3 ⟨z, rfl, nz, hh3, s3⟩
      exact ⟨len2, fun a ha => fin (.lst z) (.tup upd_same (.cons (.str _ (by decide +kernel)) (.cons (.int z) .nil))) trivial nz (Nat.succ_le_succ (Nat.zero_le _)) (hh3.same (Same.upd ha)) (s3.trans (Same.upd ha).b)⟩
    have hn : 1 ≤ n := by
      have c0 := of_decide_eq_false c0
      have c1 := of_decide_eq_false c1
      have c2 := of_decide_eq_false c2
      have : n = 0 → False := fun z => by
        have := b3 z
        omega
      omega
    have AR : ∀ {σ : L2.St} {H' : Hp}, σ[0]? = some (some (.ref hd)) → σ[1]? = some (some (.int ((n + 1 : Nat) : Int))) → PuA (tCons (tVar 0) (tCons (tOp (rI0 fun i j => .int (i - j)) (tVar 1) (tC (.int 1))) tNil)) σ H' [.ref hd, .int (n : Int)] := fun h0 h1 => pa_c (pu_v h0) (pa_c (pu_cast (pu_sub (pu_v h1) pu_c) (by congr 1; omega)) pa_n)
    refine st_setG (gv_wish hn hh1 (AR rfl rfl)) ?_
    rintro v H2 ⟨⟨u, hv, nu, ku, du⟩, hh2, s2⟩
    obtain ⟨ys2, hys2⟩ := hh2.ls
    refine st_ifN (pt_t (pu_eqI (pu_v rfl) pu_c)) (fun _ => ?_) (fun c3 => ?_)
    · refine st_retG (gv_tup (pa_c pu_c (pa_c (pu_v rfl) pa_n)) len2) ?_
      rintro _ _ ⟨a, ha, rfl, rfl⟩
      exact fin (.no u) (.tup upd_same (.cons (.str _ (by decide +kernel)) (.cons (hv.same (Same.upd ha)) .nil))) nu ku (Nat.succ_le_succ du) (hh2.same (Same.upd ha)) (s2.trans (Same.upd ha).b)
    refine st_retG (R := fun v H' => Q v H') (gv_tupA (RA := fun vs H' => ∃ (b : Bool) (v' : V) (u' : Wi), vs = [.str (if b then Str.ofString "any" else Str.ofString "both"), v, v'] ∧ DAt hd H' v u.d ∧ DAt hd H' v' u'.d ∧ u'.names ∧ u'.nums small ∧ u'.deep ≤ n ∧ HandAt H' hd sc ∧ SameB hd H1 H') (fun Q2 q2 => ?_) ?_) fun _ _ z => z
    · refine gv_two (m := m) rfl _ ?_
      rintro _ H3 ⟨b, rfl, s3⟩
      have hh3 := hh2.same s3
      refine (pu_v rfl : Pu (tVar 4) _ _ v) _ (gv_wish hn hh3 (AR rfl rfl) _ ?_)
      rintro v' H4 ⟨⟨u', hv', nu', ku', du'⟩, hh4, s4⟩
      exact q2 _ _ ⟨b, v', u', rfl, DAt.but (s3 _ _ hys2) s4 (hv.same s3), hv', nu', ku', du', hh4, (s2.trans s3.b).trans s4⟩
    · rintro _ H4 ⟨b, v', u', rfl, hv4, hv', nu', ku', du', hh4, s4⟩
      refine ⟨len3, fun a ha => ?_⟩
      cases b with
      | false => exact fin (.both u u') (.tup upd_same (.cons (.str _ (by decide +kernel)) (.cons (hv4.same (Same.upd ha)) (.cons (hv'.same (Same.upd ha)) .nil)))) ⟨nu, nu'⟩ ⟨ku, ku'⟩ (by simp only [Wi.deep]; omega) (hh4.same (Same.upd ha)) (s4.trans (Same.upd ha).b)
      | true => exact fin (.any u u') (.tup upd_same (.cons (.str _ (by decide +kernel)) (.cons (hv4.same (Same.upd ha)) (.cons (hv'.same (Same.upd ha)) .nil)))) ⟨nu, nu'⟩ ⟨ku, ku'⟩ (by simp only [Wi.deep]; omega) (hh4.same (Same.upd ha)) (s4.trans (Same.upd ha).b)
theorem okr_wish (T : Txt K mg t w) : ∀ n : Nat, FnOk P w K mg base CX0 (8 + n) t.f_l_wish t.d_l_wish ["_law_hand_here", "_law_deep"] (sp_l_wish n)
  | 0 => ((T.l_wish.F.okNo sc_l_wish).mono (by decide : 1 ≤ 8)).imp fun vs H Q E h => by
    obtain ⟨hd, sc, _, h1, _⟩ := h
    omega
  | n + 1 => (okA_wish T (okr_wish T n) (by omega)).mono (by omega)
def sp_l_wishA : Sp := fun vs H Q E => ∃ n : Nat, n ≤ 6 ∧ sp_l_wish n vs H Q E
theorem ok_l_wish (T : Txt K mg t w) : FnOk P w K mg base CX0 14 t.f_l_wish t.d_l_wish ["_law_hand_here", "_law_deep"] sp_l_wishA :=
  ⟨fun vs H Q E h => by
    obtain ⟨n, _, h⟩ := h
    exact (okr_wish (P := P) (w := w) (base := base) T n).len vs H Q E h, fun A outer s H args us vs Q E hr e b r h => by
    obtain ⟨n, hn, h⟩ := h
    exact ((okr_wish T n).mono (by omega : 8 + n ≤ 14)).run A outer s H args us vs Q E hr e b r h⟩
def sp_l_written (n : Nat) : Sp := fun vs H Q _ => ∃ hd v u, vs = [v] ∧ DAt hd H v (Wi.d u) ∧ u.deep ≤ n ∧ n ≤ 7 ∧ u.names ∧ u.nums (Bd 700) ∧ ∀ H', Same H H' → Q (.str u.text) H'
theorem sc_l_written : FnScope ["_law_wish_here", "_law_text_here", "_law_part"] ["_law_wish_here"] (defScope s_l_written) := ⟨rfl, rfl, rfl, by decide +kernel, rfl, by decide +kernel, by decide +kernel⟩
theorem wi_tup (u : Wi) : u.d.isTup = true := by cases u <;> rfl
theorem pa_len {n : Nat} {p : Pa} (hn : n ≤ 7) (h1 : p.deep ≤ n) (h2 : p.names) (h3 : p.nums (Bd 700)) : p.text.length ≤ 751 * 3 ^ 7 := by
  have p7 : 3 ^ n ≤ 3 ^ 7 := Nat.pow_le_pow_right (by decide) hn
  cases p with
  | nm s => exact Nat.le_trans (name_len h2).2 (by decide)
  | nb z => exact Nat.le_trans (tx_len4 h3) (by decide)
  | ws v => exact Nat.le_trans (Wi.text_len n v h1 h2 h3) (Nat.mul_le_mul_left _ p7)
theorem gv_addS {σ : L2.St} {H : Hp} {ta tb : TE} {x : Str} {R R' : V → Hp → Prop} (ha : Pu ta σ H (.str x)) (hb : Gv tb σ H R) (hr : ∀ v H', R v H' → ∃ y, v = .str y ∧ x.length + y.length ≤ sizeLine ∧ R' (.str (x ++ y)) H') :
    Gv (tOp (fun x y H Q => ∃ i j, x = .str i ∧ y = .str j ∧ i.length + j.length ≤ sizeLine ∧ Q (.str (i ++ j)) H) ta tb) σ H R' := fun Q q => ha _ (hb _ fun v H' r => by
  obtain ⟨y, rfl, h1, h2⟩ := hr v H' r
  exact ⟨x, y, rfl, rfl, h1, q _ _ h2⟩)
theorem okA_written (T : Txt K mg t w) {n k : Nat} (GP : FnOk P w K mg base CX0 k t.f_l_written t.d_l_written ["_law_wish_here"] (sp_l_written n)) (hk : 5 ≤ k) : FnOk P w K mg base CX0 (k + 1) t.f_l_written t.d_l_written ["_law_wish_here"] (sp_l_written (n + 1)) := by
  have ok_l_written := fun (_ : Txt K mg t w) => GP
  refine T.l_written.F.ok (k := k) sc_l_written (fun vs H Q E h => ?_) (fun cdv A outer s H vs Q E hr h => ?_)
  · obtain ⟨hd, v, u, rfl, _⟩ := h
    rfl
  · obtain ⟨hd, v, u, rfl, hv, dp, n7, nn, nk, k⟩ := h
    refine ⟨_, (@pss_cons _ _ _ _ _ (@ps_set _ _ 1 _ _ _ _ sc_l_written.nd rfl (Or.inl rfl) (@pe_ix _ _ _ _ _ _ _ ix_tup (pv 0) (@pe_int _ _ _ _) (fun _ _ => rfl)) (by rfl) (by first | exact .inl rfl | exact .inr rfl | assumption)) (@pss_cons _ _ _ _ _ (@ps_for _ _ _ _ _ _ _ _ PassesOwn.never rfl (@pi_tup _ _ _ _ (@pe_slice _ _ _ _ _ _ _ _ _ _ sl_tup (pv 0) (@po_some _ _ _ (@pe_int _ _ _ _)) (@po_none _))) (@pg_name _ _ 2 _ sc_l_written.nd rfl (Or.inl rfl) (by first | exact .inl rfl | exact .inr rfl | assumption)) (@pss_one _ _ _ (@ps_if _ _ _ _ _ _ _ _ (@pt_val _ _ _ (@pe_callB _ _ _ _ _ _ _ _ _ call_isinst (by rfl) T.b_isinstance PyProof.Rows.boot_isinstance (@pa_cons _ _ _ _ _ (pv 2) (@pa_cons _ _ _ _ _ (@pe_ty _ _ _ _ T.b_tuple PyProof.Rows.boot_tuple (by rfl) (by decide) (by decide)) (@pa_nil _) star_name) star_name) (by decide) (by decide) (by rfl) (by rfl)) (by intro _; rfl)) (@pss_one _ _ _ (@ps_set _ _ 1 _ _ _ _ sc_l_written.nd rfl (Or.inl rfl) (@pe_op _ _ _ _ _ _ _ _ op_add_str (@pe_op _ _ _ _ _ _ _ _ op_add_str (pv 1) (@pe_str _ _ _ _)) (@pe_fn _ _ _ _ _ _ _ _ _ _ _ _ _ _ T.l_written (ok_l_written T) hr (by omega) (@pa_cons _ _ _ _ _ (pv 2) (@pa_nil _) star_name) (by rfl) (by decide) (by rfl) (by rfl))) (by rfl) (by first | exact .inl rfl | exact .inr rfl | assumption))) (@pss_one _ _ _ (@ps_set _ _ 1 _ _ _ _ sc_l_written.nd rfl (Or.inl rfl) (@pe_op _ _ _ _ _ _ _ _ op_add_str (@pe_op _ _ _ _ _ _ _ _ op_add_str (pv 1) (@pe_str _ _ _ _)) (@pe_callTy _ _ _ _ _ _ _ _ _ call_strD (by rfl) T.b_str PyProof.Rows.boot_str (@pa_cons _ _ _ _ _ (pv 2) (@pa_nil _) star_name) (by decide) (by decide) (by rfl) (by rfl))) (by rfl) (by first | exact .inl rfl | exact .inr rfl | assumption))))) (by intro _; rfl)) (@pss_one _ _ _ (@ps_ret _ _ _ _ (pv 1))))), ?_⟩
    rw [u.d_eq] at hv
    cases hv with
    | @tup a xs ds h td =>
      cases td with
      | @cons x0 d0 xs ds h0 td =>
        cases h0 with
        | str _ hx =>
          have hlen := td.len
          rw [List.length_map] at hlen
          have p2 := u.parts_le
          have d1 := (u.deep_iff n).mp dp
          have n1 := u.names_iff.mp nn
          have k1 := (u.nums_iff _).mp nk
          have big : 16000000 ≤ sizeLine := by decide
          refine st_set (pu_ixT (pu_v rfl) pu_c (SqT.of h) at0) ?_
          refine st_tuplG (gv_tl (pu_v rfl) h) ?_
          rintro _ _ ⟨q0, hq0, rfl, rfl⟩
          have s0 : Same H (upd H q0 (.tup xs)) := Same.upd hq0
          have t0 : (upd H q0 (.tup xs)) q0 = some (.tup xs) := upd_same
          revert s0 t0
          generalize upd H q0 (.tup xs) = H0
          intro s0 t0
          refine st_tupl (K := K) (xs := xs) pu_c (fun i σ H' => Same H0 H' ∧ ∃ z : Option V, σ = [some (.ref a), some (.str (Str.join (Str.ofString " ") (u.word :: (u.parts.take i).map Pa.text))), z]) ⟨Same.rfl', none, rfl⟩ (fun i σ H' _ ⟨s', _⟩ => SqT.of (s' _ _ t0)) ?_ ?_
          · rintro i y σ H1 hy ⟨s1, z, rfl⟩
            obtain ⟨di, hdi, hy'⟩ := td.get hy
            rw [List.getElem?_map] at hdi
            cases hpi : u.parts[i]? with
            | none => rw [hpi] at hdi; cases hdi
            | some p =>
              rw [hpi] at hdi
              have e1 : p.d = di := Option.some.inj hdi
              subst e1
              have hm := List.mem_of_getElem? hpi
              have hy1 := hy'.same (s0.trans s1)
              have tk : (u.parts.take (i + 1)).map Pa.text = (u.parts.take i).map Pa.text ++ [p.text] := by rw [List.take_succ, hpi, List.map_append]; rfl
              have jn : Str.join (Str.ofString " ") (u.word :: (u.parts.take (i + 1)).map Pa.text) = Str.join (Str.ofString " ") (u.word :: (u.parts.take i).map Pa.text) ++ Str.ofString " " ++ p.text := by
                rw [tk, ← List.cons_append, join_app _ (by simp) (by simp)]
                rfl
              have pl := pa_len (by omega) (d1 p hm) (n1 p hm) (k1 p hm)
              have jl : (Str.join (Str.ofString " ") (u.word :: (u.parts.take i).map Pa.text)).length ≤ 3 * (751 * 3 ^ 7 + 1) := by
                have b1 : (Str.ofString " ").length = 1 := by decide +kernel
                have := join_len (sep := Str.ofString " ") (b := 751 * 3 ^ 7) (u.word :: (u.parts.take i).map Pa.text) (fun t ht => by
                  rcases List.mem_cons.mp ht with rfl | ht
                  · exact Nat.le_trans u.word_le (by decide)
                  · obtain ⟨p', hp', rfl⟩ := List.mem_map.mp ht
                    have hm' := List.mem_of_mem_take hp'
                    exact pa_len (by omega) (d1 p' hm') (n1 p' hm') (k1 p' hm'))
                rw [b1] at this
                refine Nat.le_trans this (Nat.mul_le_mul_right _ ?_)
                rw [List.length_cons, List.length_map, List.length_take]
                omega
              have b2 : 3 * (751 * 3 ^ 7 + 1) + 1 + 751 * 3 ^ 7 ≤ 16000000 := by decide
              have h1 : (Str.ofString " ").length = 1 := by decide +kernel
              have TX : ∀ {σ : L2.St} {H' : Hp}, σ[1]? = some (some (.str (Str.join (Str.ofString " ") (u.word :: (u.parts.take i).map Pa.text)))) → Pu (tOp (fun x y H Q => ∃ i j, x = .str i ∧ y = .str j ∧ i.length + j.length ≤ sizeLine ∧ Q (.str (i ++ j)) H) (tVar 1) (tC (.str (Str.ofString " ")))) σ H' (.str (Str.join (Str.ofString " ") (u.word :: (u.parts.take i).map Pa.text) ++ Str.ofString " ")) := fun h => pu_addS (pu_v h) pu_c (by omega)
              refine st_ifG1 (R := fun b H' => b = p.d.isTup ∧ H1 = H') (PuT.gt (pt_b (pu_isi (pa_c (pu_v rfl) (pa_c pu_c pa_n)) hy1.ty (kd_tup p.d))) ⟨rfl, rfl⟩) (fun H' e => ?_) (fun H' e => ?_)
              · obtain ⟨e, rfl⟩ := e
                cases p with
                | nm s => cases e
                | nb z => cases e
                | ws w' =>
                  have pl' : w'.text.length ≤ 751 * 3 ^ 7 := pl
                  refine st_setG1 (R := fun v H' => v = .str (Str.join (Str.ofString " ") (u.word :: (u.parts.take (i + 1)).map Pa.text)) ∧ Same H1 H') (gv_addS (R := fun v H' => v = .str w'.text ∧ Same H1 H') (TX rfl) (gv_call (pa_c (pu_v rfl) pa_n) fun Q q => ⟨hd, y, w', rfl, hy1, d1 _ hm, by omega, n1 _ hm, k1 _ hm, fun H' s => q _ _ ⟨rfl, s⟩⟩) ?_) ?_
                  · rintro _ H' ⟨rfl, s'⟩
                    exact ⟨_, rfl, by rw [app_len]; exact Nat.le_trans (by omega) (Nat.le_trans b2 big), by rw [jn]; rfl, s'⟩
                  · rintro _ H' ⟨rfl, s'⟩
                    exact ⟨s1.trans s', _, rfl⟩
              · obtain ⟨e, rfl⟩ := e
                refine st_set1 (v := .str (Str.join (Str.ofString " ") (u.word :: (u.parts.take (i + 1)).map Pa.text))) ?_ ⟨s1, _, rfl⟩
                rw [jn]
                refine pu_addS (TX rfl) ?_ (by rw [app_len]; omega)
                cases p with
                | nm s =>
                  cases hy1
                  exact fun Q q => (pa_c (pu_v rfl) pa_n : PuA (tCons (tVar 2) tNil) _ _ [.str s]) _ (.inr ⟨s, rfl, q⟩)
                | nb z =>
                  cases hy1
                  exact fun Q q => (pa_c (pu_v rfl) pa_n : PuA (tCons (tVar 2) tNil) _ _ [.int z]) _ (.inl ⟨z, rfl, bd_log (Bd.mono (k1 _ hm) (by decide)), q⟩)
                | ws w' =>
                  have := wi_tup w'
                  rw [show (Pa.ws w').d.isTup = w'.d.isTup from rfl, this] at e
                  cases e
          · rintro σ H1 ⟨s1, z, rfl⟩
            have e1 : Str.join (Str.ofString " ") (u.word :: (u.parts.take xs.length).map Pa.text) = u.text := by
              rw [hlen, List.take_length, ← u.text_eq]
            rw [e1]
            exact st_ret (pu_v rfl) (k _ (s0.trans s1))
theorem okr_written (T : Txt K mg t w) : ∀ n : Nat, FnOk P w K mg base CX0 (5 + n) t.f_l_written t.d_l_written ["_law_wish_here"] (sp_l_written n)
  | 0 => ((T.l_written.F.okNo sc_l_written).mono (by decide : 1 ≤ 5)).imp fun vs H Q E h => by
    obtain ⟨hd, v, u, _, _, dp, _⟩ := h
    have := u.deep_pos
    omega
  | n + 1 => (okA_written T (okr_written T n) (by omega)).mono (by omega)
theorem ok_l_written (T : Txt K mg t w) : FnOk P w K mg base CX0 12 t.f_l_written t.d_l_written ["_law_wish_here"] (sp_l_written 7) := okr_written T 7
theorem RdSp.imp {t : Adr} {r : Str → Option D} {vs : List V} {H : Hp} {Q Q' : VK} {E : XK} (h : RdSp t r vs H Q E) (q : ∀ v H', Q v H' → Q' v H') : RdSp t r vs H Q' E := by
  rcases h with ⟨s, rfl, tx, k, kx⟩ | h
  · exact .inl ⟨s, rfl, tx, fun d e v H' s n => q _ _ (k d e v H' s n), kx⟩
  · exact .inr h
def rDo (d : Int) (s : Str) : Option D := if d = 0 then (rF s).map dF else if d = 1 then (rP s).map dPt else if d = 2 then (rRs s).map dRgs else rWi s
def spx_l_ask (t : Adr) : Sp := fun vs H Q E => ∃ d x, vs = [.int d, x] ∧ RdSp t (rDo d) [x] H Q E
theorem sc_l_ask : FnScope ["_law_door", "_law_thing"] ["_law_door", "_law_thing"] (defScope s_l_ask) := ⟨rfl, rfl, rfl, by decide +kernel, rfl, by decide +kernel, by decide +kernel⟩
theorem okx_l_ask (T : Txt K mg t w) : FnOk P w K mg base (CXE P w) 22 t.f_l_ask t.d_l_ask ["_law_door", "_law_thing"] (spx_l_ask t) := by
  refine T.l_ask.F.okE (k := 21) sc_l_ask (fun vs H Q E h => ?_) (fun cdv A outer s H vs Q E hr h => ?_)
  · obtain ⟨d, x, rfl, _⟩ := h
    rfl
  · obtain ⟨d, x, rfl, h⟩ := h
    refine ⟨_, (@pss_cons _ _ _ _ _ (@ps_if _ _ _ _ _ _ _ _ (@pt_cmpR _ _ _ _ _ _ _ _ op_eq (pv 0) (@pe_int _ _ _ _) (nomark _)) (@pss_one _ _ _ (@ps_ret _ _ _ _ (@pe_fnX _ _ _ _ _ _ _ _ _ _ _ _ _ _ _ _ _ T.read_fraction (okx_read_fraction T) hr (by decide) passX (@pa_cons _ _ _ _ _ (pv 1) (@pa_nil _) star_name) (by rfl) (by decide) (by rfl) (by rfl)))) (@pss_nil _)) (@pss_cons _ _ _ _ _ (@ps_if _ _ _ _ _ _ _ _ (@pt_cmpR _ _ _ _ _ _ _ _ op_eq (pv 0) (@pe_int _ _ _ _) (nomark _)) (@pss_one _ _ _ (@ps_ret _ _ _ _ (@pe_fnX _ _ _ _ _ _ _ _ _ _ _ _ _ _ _ _ _ T.read_point (okx_read_point T) hr (by decide) passX (@pa_cons _ _ _ _ _ (pv 1) (@pa_nil _) star_name) (by rfl) (by decide) (by rfl) (by rfl)))) (@pss_nil _)) (@pss_cons _ _ _ _ _ (@ps_if _ _ _ _ _ _ _ _ (@pt_cmpR _ _ _ _ _ _ _ _ op_eq (pv 0) (@pe_int _ _ _ _) (nomark _)) (@pss_one _ _ _ (@ps_ret _ _ _ _ (@pe_fnX _ _ _ _ _ _ _ _ _ _ _ _ _ _ _ _ _ T.read_rings (okx_read_rings T) hr (by decide) passX (@pa_cons _ _ _ _ _ (pv 1) (@pa_nil _) star_name) (by rfl) (by decide) (by rfl) (by rfl)))) (@pss_nil _)) (@pss_one _ _ _ (@ps_ret _ _ _ _ (@pe_fnX _ _ _ _ _ _ _ _ _ _ _ _ _ _ _ _ _ T.read_wish (okx_read_wish T) hr (by decide) passX (@pa_cons _ _ _ _ _ (pv 1) (@pa_nil _) star_name) (by rfl) (by decide) (by rfl) (by rfl))))))), ?_⟩
    refine st_ifN (pt_t (pu_eqI (pu_v rfl) pu_c)) (fun e => ?_) (fun e0 => ?_)
    · have e : d = 0 := of_decide_eq_true e
      have er : rDo d = fun s => (rF s).map dF := by funext s; unfold rDo; rw [if_pos e]
      rw [er] at h
      exact st_retG (R := Q) (gv_call (sp := spx_read_fraction t) (pa_c (pu_v rfl) pa_n) fun Q q => h.imp q) fun _ _ z => z
    have e0 : ¬ d = 0 := of_decide_eq_false e0
    refine st_ifN (pt_t (pu_eqI (pu_v rfl) pu_c)) (fun e => ?_) (fun e1 => ?_)
    · have e : d = 1 := of_decide_eq_true e
      have er : rDo d = fun s => (rP s).map dPt := by funext s; unfold rDo; rw [if_neg e0, if_pos e]
      rw [er] at h
      exact st_retG (R := Q) (gv_call (sp := spx_read_point t) (pa_c (pu_v rfl) pa_n) fun Q q => h.imp q) fun _ _ z => z
    have e1 : ¬ d = 1 := of_decide_eq_false e1
    refine st_ifN (pt_t (pu_eqI (pu_v rfl) pu_c)) (fun e => ?_) (fun e2 => ?_)
    · have e : d = 2 := of_decide_eq_true e
      have er : rDo d = fun s => (rRs s).map dRgs := by funext s; unfold rDo; rw [if_neg e0, if_neg e1, if_pos e]
      rw [er] at h
      exact st_retG (R := Q) (gv_call (sp := spx_read_rings t) (pa_c (pu_v rfl) pa_n) fun Q q => h.imp q) fun _ _ z => z
    have e2 : ¬ d = 2 := of_decide_eq_false e2
    have er : rDo d = rWi := by funext s; unfold rDo; rw [if_neg e0, if_neg e1, if_neg e2]
    rw [er] at h
    exact st_retG (R := Q) (gv_call (sp := spx_read_wish t) (pa_c (pu_v rfl) pa_n) fun Q q => h.imp q) fun _ _ z => z
def sp_l_no_text : Sp := fun vs H Q _ => ∃ d x, vs = [.int d, x] ∧ ((∃ s, x = .str s ∧ TxOk s ∧ rDo d s = none) ∨ ∃ hd e, DAt hd H x e ∧ e.isStr = false) ∧ ∀ H', Same H H' → Q (.bl true) H'
theorem sc_l_no_text : FnScope ["_law_door", "_law_thing", "e"] ["_law_door", "_law_thing"] (defScope s_l_no_text) := ⟨rfl, rfl, rfl, by decide +kernel, rfl, by decide +kernel, by decide +kernel⟩
theorem ok_l_no_text (T : Txt K mg t w) : FnOk P w K mg base CX0 23 t.f_l_no_text t.d_l_no_text ["_law_door", "_law_thing"] sp_l_no_text := by
  refine T.l_no_text.F.ok (k := 22) sc_l_no_text (fun vs H Q E h => ?_) (fun cdv A outer s H vs Q E hr h => ?_)
  · obtain ⟨d, x, rfl, _⟩ := h
    rfl
  · obtain ⟨d, x, rfl, h, k⟩ := h
    have ask : ∀ (Q : VK) (E : XK), (∀ H', Same H H' → E (.ref t.c_NoText) none H') → spx_l_ask t [.int d, x] H Q E := fun Q E g => by
      rcases h with ⟨s, rfl, tx, e⟩ | ⟨hd, e, h1, h2⟩
      · exact ⟨d, _, rfl, .inl ⟨s, rfl, tx, (fun d' z => by rw [e] at z; cases z), fun _ => g⟩⟩
      · exact ⟨d, _, rfl, .inr ⟨hd, x, e, rfl, h1, h2, g⟩⟩
    refine ⟨_, (@pss_cons _ _ _ _ _ (@ps_tryE _ 2 _ _ _ _ _ _ _ _ _ _ _ _ _ _ _ _ _ _ _ _ _ rfl rfl rfl rfl (okx_l_ask T) (hr.mono (by decide)) rfl T.l_ask.m T.l_ask.F.kp T.l_ask.b (@pa_cons _ _ _ _ _ (pv 0) (@pa_cons _ _ _ _ _ (pv 1) (@pa_nil _) star_name) star_name) sc_l_no_text.nd rfl rfl rfl T.m_PlyError (fun _ => (@pss_one _ _ _ (@ps_ret _ _ _ _ (@pe_and _ _ _ _ _ _ _ (@pe_callB _ _ _ _ _ _ _ _ _ (call_isinstK (K := K) rfl) (by rfl) T.b_isinstance PyProof.Rows.boot_isinstance (@pa_cons _ _ _ _ _ (pv 2) (@pa_cons _ _ _ _ _ (@pe_cls _ _ _ _ T.m_NoText (by rfl) (by decide)) (@pa_nil _) star_name) star_name) (by decide) (by decide) (by rfl) (by rfl)) (@pe_and _ _ _ _ _ _ _ (@pe_callB _ _ _ _ _ _ _ _ _ (call_isinstK (K := K) rfl) (by rfl) T.b_isinstance PyProof.Rows.boot_isinstance (@pa_cons _ _ _ _ _ (pv 2) (@pa_cons _ _ _ _ _ (@pe_ty _ _ _ _ T.b_ValueError PyProof.Rows.Boot.«ValueError» (by rfl) (by decide) (by decide)) (@pa_nil _) star_name) star_name) (by decide) (by decide) (by rfl) (by rfl)) (@pe_one _ _ _ _ _ (@pe_not _ _ _ _ (@pe_callB _ _ _ _ _ _ _ _ _ (call_isinstT (K := K) rfl) (by rfl) T.b_isinstance PyProof.Rows.boot_isinstance (@pa_cons _ _ _ _ _ (pv 2) (@pa_cons _ _ _ _ _ (@pe_tup _ _ _ _ _ (@pa_cons _ _ _ _ _ (@pe_cls _ _ _ _ T.m_BadWish (by rfl) (by decide)) (@pa_cons _ _ _ _ _ (@pe_cls _ _ _ _ T.m_NoNumber (by rfl) (by decide)) (@pa_cons _ _ _ _ _ (@pe_cls _ _ _ _ T.m_NoPoint (by rfl) (by decide)) (@pa_nil _) star_name) star_name) star_name)) (@pa_nil _) star_tup) star_name) (by decide) (by decide) (by rfl) (by rfl))))))))) (by rfl) (by decide) (by decide) (by rfl) (by rfl)) (@pss_one _ _ _ (@ps_ret _ _ _ _ (@pe_bl _ _ _ _)))), ?_⟩
    refine st_tryE (pa_c (pu_v rfl) (pa_c (pu_v rfl) pa_n)) (ask _ _ fun H' s => ⟨T.m1, fun ea hea => ?_⟩)
    have s1 : Same H (upd H' ea (.ext (isOf ea (.ref t.c_NoText)))) := s.trans (Same.upd hea)
    refine st_retG (R := fun v H2 => v = .bl true ∧ Same H H2) (gv_andG (Pu.gv (v := .bl true) (pu_isE (pa_c (pu_v rfl) (pa_c pu_c pa_n)) upd_same T.x_NoText (.ref _) T.i1)) ?_) (fun v H2 r => by obtain ⟨rfl, s2⟩ := r; exact k _ s2)
    rintro _ _ ⟨rfl, rfl⟩
    refine ⟨true, rfl, fun _ => ?_, fun e => by cases e⟩
    refine gv_andG (Pu.gv (v := .bl true) (pu_isE (pa_c (pu_v rfl) (pa_c pu_c pa_n)) upd_same T.x_NoText (.ty _) T.i2)) ?_
    rintro _ _ ⟨rfl, rfl⟩
    refine ⟨true, rfl, fun _ => ?_, fun e => by cases e⟩
    intro Q q
    refine gv_callBT (K := K) (C := t.c_NoText) (a := ea) (us := [.ref t.c_BadWish, .ref t.c_NoNumber, .ref t.c_NoPoint]) (pu_v rfl) (pa_c pu_c (pa_c pu_c (pa_c pu_c pa_n))) len3 upd_same T.x_NoText (.cons (.ref _) (.cons (.ref _) (.cons (.ref _) .nil))) T.i0 _ fun v H2 e => ?_
    obtain ⟨rfl, s2⟩ := e
    exact ⟨false, rfl, q _ _ ⟨rfl, s1.trans s2⟩⟩
theorem gv_nil {σ : L2.St} {H : Hp} : Gv (tLst tNil) σ H (fun v H' => ∃ p, H p = none ∧ v = .ref p ∧ H' = upd H p (.lst [])) := gv_lst pa_n (by decide)
def TxL (m : Nat) (s : Str) : Prop := (∀ c ∈ s.cps.toList, c < 128) ∧ s.length ≤ m
theorem TxL.app {m n : Nat} {a b : Str} (ha : TxL m a) (hb : TxL n b) : TxL (m + n) (a ++ b) := by
  refine ⟨fun c hc => ?_, ?_⟩
  · rw [app_list] at hc
    rcases List.mem_append.mp hc with h | h
    · exact ha.1 c h
    · exact hb.1 c h
  · rw [app_len]
    exact Nat.add_le_add ha.2 hb.2
theorem TxL.mono {m n : Nat} {a : Str} (h : TxL m a) (hm : m ≤ n) : TxL n a := ⟨h.1, Nat.le_trans h.2 hm⟩
theorem TxL.join {m k : Nat} {sep : Str} (hs : TxL k sep) : ∀ (ts : List Str), (∀ t ∈ ts, TxL m t) → TxL (ts.length * (m + k)) (Str.join sep ts)
  | [], _ => ⟨fun c hc => (nomatch (show c ∈ ([] : List Nat) from hc)), Nat.zero_le _⟩
  | [a], h => (h a (by simp)).mono (by simp)
  | a :: b :: r, h => by
    have ih := TxL.join (m := m) hs (b :: r) (fun t ht => h t (List.mem_cons_of_mem _ ht))
    have := ((h a (by simp)).app hs).app ih
    show TxL _ (a ++ sep ++ Str.join sep (b :: r))
    refine this.mono ?_
    rw [List.length_cons (a := a), Nat.add_mul]
    omega
theorem tx_l {n : Int} (h : n.natAbs < 10 ^ 60) : TxL 61 (tx n) := ⟨tx_ascii n, (tx_reads n h).2⟩
theorem shF_l {f : Int × Int} (h : FrS f) : TxL 123 (shF f) := by
  unfold shF
  split
  · exact (tx_l h.1).mono (by decide)
  · exact ((tx_l h.1).app (n := 1) (b := Str.ofString "/") ⟨by decide +kernel, by decide +kernel⟩).app (tx_l h.2)
theorem wi_l : ∀ (n : Nat) (w : Wi), w.deep ≤ n → w.names → w.nums small → (∀ c ∈ w.text.cps.toList, c < 128) ∧ w.text.length + 10 ≤ 100 * 2 ^ n
  | 0, w, h, _, _ => by have := w.deep_pos; omega
  | n + 1, w, h, hn, hk => by
    have p1 : 1 ≤ 2 ^ n := Nat.pow_pos (by decide)
    have hp : ∀ p ∈ w.parts, (∀ c ∈ p.text.cps.toList, c < 128) ∧ p.text.length + 10 ≤ 100 * 2 ^ n := fun p hp => by
      have d1 := (w.deep_iff n).mp h p hp
      have n1 := w.names_iff.mp hn p hp
      have k1 := (w.nums_iff _).mp hk p hp
      cases p with
      | nm s =>
        have := (name_len n1).2
        refine ⟨name_ascii n1, ?_⟩
        show s.length + 10 ≤ _
        omega
      | nb k =>
        have := (tx_l k1).2
        refine ⟨tx_ascii k, ?_⟩
        show (tx k).length + 10 ≤ _
        omega
      | ws v => exact wi_l n v d1 n1 k1
    have h1 : (Str.ofString " ").length = 1 := by decide +kernel
    have h1a : ∀ c ∈ (Str.ofString " ").cps.toList, c < 128 := by decide +kernel
    have wl := w.word_le
    have wa := w.word_ascii
    rw [w.text_eq, Nat.pow_succ]
    revert hp wl wa
    generalize w.word = wd
    have hl := w.parts_le
    have hne := w.parts_ne
    revert hl hne
    generalize w.parts = ps
    intro hl hne hp wl wa
    match ps, hl, hne, hp with
    | [p], _, _, hp =>
      have := hp p (by simp)
      show (∀ c ∈ (wd ++ Str.ofString " " ++ p.text).cps.toList, c < 128) ∧ (wd ++ Str.ofString " " ++ p.text).length + 10 ≤ _
      rw [app_len, app_len, app_list, app_list]
      refine ⟨fun c hc => ?_, by omega⟩
      rcases List.mem_append.mp hc with hc | hc
      · rcases List.mem_append.mp hc with hc | hc
        · exact wa c hc
        · exact h1a c hc
      · exact this.1 c hc
    | [p, q], _, _, hp =>
      have h2 := hp p (by simp)
      have h3 := hp q (by simp)
      show (∀ c ∈ (wd ++ Str.ofString " " ++ (p.text ++ Str.ofString " " ++ q.text)).cps.toList, c < 128) ∧ (wd ++ Str.ofString " " ++ (p.text ++ Str.ofString " " ++ q.text)).length + 10 ≤ _
      rw [app_len, app_len, app_len, app_len, app_list, app_list, app_list, app_list]
      refine ⟨fun c hc => ?_, by omega⟩
      rcases List.mem_append.mp hc with hc | hc
      · rcases List.mem_append.mp hc with hc | hc
        · exact wa c hc
        · exact h1a c hc
      · rcases List.mem_append.mp hc with hc | hc
        · rcases List.mem_append.mp hc with hc | hc
          · exact h2.1 c hc
          · exact h1a c hc
        · exact h3.1 c hc
theorem nums_mono {P Q : Int → Prop} (h : ∀ k, P k → Q k) : ∀ (u : Wi), u.nums P → u.nums Q
  | .inn _, _ => trivial
  | .rnd _ k, a => h k a
  | .lst k, a => h k a
  | .no u, a => nums_mono h u a
  | .both u v, a => ⟨nums_mono h u a.1, nums_mono h v a.2⟩
  | .any u v, a => ⟨nums_mono h u a.1, nums_mono h v a.2⟩
theorem gv_cnt {σ : L2.St} {H : Hp} {hd sc : Addr} {m d : Int} {t : TA} (hh : HandAt H hd sc) (ha : PuA t σ H [.ref hd, .int m]) (m0 : 0 < m) (m1 : m ≤ 1000) (h1 : σ[1]? = some (some (.int d))) : Gv (tOp (rI0 fun i j => .int (i + j)) (tC (.int 1)) (tOp (rI IntMulOk fun i j => .int (i * j)) (tCall sp_l_draw [] E0 t) (tCB (fun xs H Q => (∃ i, xs = [.int i] ∧ Q (.int i) H) ∨ ∃ k, xs = [.bl k] ∧ Q (.int (if k then 1 else 0)) H) (tCons (tOp rEq (tVar 1) (tC (.int 2))) tNil)))) σ H (fun v H' => (∃ n : Int, v = .int n ∧ 1 ≤ n ∧ n ≤ m) ∧ HandAt H' hd sc ∧ SameB hd H H') := by
  refine gv_opG' (R1 := fun v H' => v = .int 1 ∧ H = H') (R2 := fun x v H' => x = .int 1 ∧ (∃ n : Int, v = .int n ∧ 0 ≤ n ∧ n < m) ∧ HandAt H' hd sc ∧ SameB hd H H') (Pu.gv' pu_c ⟨rfl, rfl⟩) ?_ ?_
  · rintro _ _ ⟨rfl, rfl⟩
    refine gv_opG' (R2 := fun x v H' => (∃ n : Int, x = .int n ∧ 0 ≤ n ∧ n < m) ∧ (∃ b : Bool, v = .int (if b then 1 else 0)) ∧ HandAt H' hd sc ∧ SameB hd H H') (gv_draw hh ha m0 (Bd.small (by omega))) (fun x H1 r1 => Pu.gv' (v := .int (if decide (d = 2) then 1 else 0)) (fun Q q => (pa_c (pu_eqI (pu_v h1) pu_c) pa_n : PuA (tCons (tOp rEq (tVar 1) (tC (.int 2))) tNil) _ _ [.bl (decide (d = 2))]) _ (.inr ⟨_, rfl, q⟩)) ⟨r1.1, ⟨_, rfl⟩, r1.2⟩) ?_
    rintro _ _ H2 ⟨⟨n, rfl, n0, n1⟩, ⟨b, rfl⟩, hh2, s2⟩ Q q
    refine ⟨n, _, rfl, rfl, mulOk_of (show Bd 9000 _ from Bd.small (by omega)) (show Bd 9000 _ from Bd.small (by cases b <;> simp)) (by decide), q _ _ ⟨rfl, ⟨_, rfl, ?_, ?_⟩, hh2, s2⟩⟩
    · cases b <;> simp <;> omega
    · cases b <;> simp <;> omega
  · rintro _ _ H2 ⟨rfl, ⟨n, rfl, n0, n1⟩, hh2, s2⟩ Q q
    exact ⟨1, n, rfl, rfl, q _ _ ⟨⟨_, rfl, by omega, by omega⟩, hh2, s2⟩⟩
def sp_l_good : Sp := fun vs H Q _ => ∃ hd sc d, vs = [.ref hd, .int d] ∧ HandAt H hd sc ∧ ∀ s H', TxL 12012 s → HandAt H' hd sc → SameB hd H H' → Q (.str s) H'
theorem gv_ftext {σ : L2.St} {H : Hp} {hd sc : Addr} (hh : HandAt H hd sc) (h0 : σ[0]? = some (some (.ref hd))) : Gv (tCall sp_l_text [] E0 (tCons (tCall sp_l_fraction [] E0 (tCons (tVar 0) tNil)) tNil)) σ H (fun v H' => (∃ s, v = .str s ∧ TxL 123 s) ∧ HandAt H' hd sc ∧ SameB hd H H') := by
  refine gv_callA (ga_cons (gv_call (sp := sp_l_fraction) (R := fun v H' => ∃ f, FrL f ∧ FrS f ∧ TupT H' v [f.1, f.2] ∧ HandAt H' hd sc ∧ SameB hd H H') (pa_c (pu_v h0) pa_n) fun Q q => ⟨hd, sc, rfl, hh, fun v f H' fl fs tv hh' s' => q _ _ ⟨f, fl, fs, tv, hh', s'⟩⟩) fun _ _ _ => ga_nil) ?_
  rintro _ H2 ⟨v, _, r, rfl, ⟨f, fl, fs, tv, hh', s'⟩, rfl, rfl⟩ Q q
  exact ⟨v, f, rfl, tv, fl, q _ _ ⟨⟨_, rfl, shF_l fs⟩, hh', s'⟩⟩
theorem sc_l_good : FnScope ["_law_hand_here", "_law_door", "_law_rows", "_law_wide", "_law_k", "_law_words", "_law_j"] ["_law_hand_here", "_law_door"] (defScope s_l_good) := ⟨rfl, rfl, rfl, by decide +kernel, rfl, by decide +kernel, by decide +kernel⟩
theorem ok_l_good (T : Txt K mg t w) : FnOk P w K mg base CX0 15 t.f_l_good t.d_l_good ["_law_hand_here", "_law_door"] sp_l_good := by
  refine T.l_good.F.ok (k := 14) sc_l_good (fun vs H Q E h => ?_) (fun cdv A outer s H vs Q E hr h => ?_)
  · obtain ⟨hd, sc, d, rfl, _⟩ := h
    rfl
  · obtain ⟨hd, sc, d, rfl, hh, k⟩ := h
    refine ⟨_, (@pss_cons _ _ _ _ _ (@ps_if _ _ _ _ _ _ _ _ (@pt_cmpR _ _ _ _ _ _ _ _ op_eq (pv 1) (@pe_int _ _ _ _) (nomark _)) (@pss_one _ _ _ (@ps_ret _ _ _ _ (@pe_fn _ _ _ _ _ _ _ _ _ _ _ _ _ _ T.l_text (ok_l_text T) hr (by decide) (@pa_cons _ _ _ _ _ (@pe_fn _ _ _ _ _ _ _ _ _ _ _ _ _ _ T.l_fraction (ok_l_fraction T) hr (by decide) (@pa_cons _ _ _ _ _ (pv 0) (@pa_nil _) star_name) (by rfl) (by decide) (by rfl) (by rfl)) (@pa_nil _) star_call) (by rfl) (by decide) (by rfl) (by rfl)))) (@pss_nil _)) (@pss_cons _ _ _ _ _ (@ps_if _ _ _ _ _ _ _ _ (@pt_cmpR _ _ _ _ _ _ _ _ op_eq (pv 1) (@pe_int _ _ _ _) (nomark _)) (@pss_one _ _ _ (@ps_ret _ _ _ _ (@pe_fn _ _ _ _ _ _ _ _ _ _ _ _ _ _ T.l_written (ok_l_written T) hr (by decide) (@pa_cons _ _ _ _ _ (@pe_fn _ _ _ _ _ _ _ _ _ _ _ _ _ _ T.l_wish (ok_l_wish T) hr (by decide) (@pa_cons _ _ _ _ _ (pv 0) (@pa_cons _ _ _ _ _ (@pe_op _ _ _ _ _ _ _ _ op_add (@pe_int _ _ _ _) (@pe_fn _ _ _ _ _ _ _ _ _ _ _ _ _ _ T.l_draw (ok_l_draw T) hr (by decide) (@pa_cons _ _ _ _ _ (pv 0) (@pa_cons _ _ _ _ _ (@pe_int _ _ _ _) (@pa_nil _) star_con) star_name) (by rfl) (by decide) (by rfl) (by rfl))) (@pa_nil _) star_bin) star_name) (by rfl) (by decide) (by rfl) (by rfl)) (@pa_nil _) star_call) (by rfl) (by decide) (by rfl) (by rfl)))) (@pss_nil _)) (@pss_cons _ _ _ _ _ (@ps_set _ _ 2 _ _ _ _ sc_l_good.nd rfl (Or.inl rfl) (@pe_lst _ _ _ _ (@pa_nil _)) (by rfl) (by first | exact .inl rfl | exact .inr rfl | assumption)) (@pss_cons _ _ _ _ _ (@ps_set _ _ 3 _ _ _ _ sc_l_good.nd rfl (Or.inl rfl) (@pe_ix _ _ _ _ _ _ _ ix_list (@pe_lst _ _ _ _ (@pa_cons _ _ _ _ _ (@pe_int _ _ _ _) (@pa_cons _ _ _ _ _ (@pe_int _ _ _ _) (@pa_cons _ _ _ _ _ (@pe_int _ _ _ _) (@pa_cons _ _ _ _ _ (@pe_int _ _ _ _) (@pa_nil _) star_con) star_con) star_con) star_con)) (@pe_fn _ _ _ _ _ _ _ _ _ _ _ _ _ _ T.l_draw (ok_l_draw T) hr (by decide) (@pa_cons _ _ _ _ _ (pv 0) (@pa_cons _ _ _ _ _ (@pe_int _ _ _ _) (@pa_nil _) star_con) star_name) (by rfl) (by decide) (by rfl) (by rfl)) (fun _ _ => rfl)) (by rfl) (by first | exact .inl rfl | exact .inr rfl | assumption)) (@pss_cons _ _ _ _ _ (@ps_for _ _ _ _ _ _ _ _ PassesOwn.never rfl (@pi_range1 _ _ _ _ _ _ rfl T.b_range (@pa_cons _ _ _ _ _ (@pe_op _ _ _ _ _ _ _ _ op_add (@pe_int _ _ _ _) (@pe_op _ _ _ _ _ _ _ _ op_mulB (@pe_fn _ _ _ _ _ _ _ _ _ _ _ _ _ _ T.l_draw (ok_l_draw T) hr (by decide) (@pa_cons _ _ _ _ _ (pv 0) (@pa_cons _ _ _ _ _ (@pe_int _ _ _ _) (@pa_nil _) star_con) star_name) (by rfl) (by decide) (by rfl) (by rfl)) (@pe_callTy _ _ _ _ _ _ _ _ _ call_int1 (by rfl) T.b_int PyProof.Rows.boot_int (@pa_cons _ _ _ _ _ (@pe_cmpR _ _ _ _ _ _ _ _ op_eq (pv 1) (@pe_int _ _ _ _) (nomark _)) (@pa_nil _) star_cmp) (by decide) (by decide) (by rfl) (by rfl)))) (@pa_nil _) star_bin) (by rfl)) (@pg_name _ _ 4 _ sc_l_good.nd rfl (Or.inl rfl) (by first | exact .inl rfl | exact .inr rfl | assumption)) (@pss_cons _ _ _ _ _ (@ps_set _ _ 5 _ _ _ _ sc_l_good.nd rfl (Or.inl rfl) (@pe_lst _ _ _ _ (@pa_nil _)) (by rfl) (by first | exact .inl rfl | exact .inr rfl | assumption)) (@pss_cons _ _ _ _ _ (@ps_for _ _ _ _ _ _ _ _ PassesOwn.never rfl (@pi_range1 _ _ _ _ _ _ rfl T.b_range (@pa_cons _ _ _ _ _ (@pe_op _ _ _ _ _ _ _ _ op_add (@pe_int _ _ _ _) (@pe_op _ _ _ _ _ _ _ _ op_mulB (@pe_fn _ _ _ _ _ _ _ _ _ _ _ _ _ _ T.l_draw (ok_l_draw T) hr (by decide) (@pa_cons _ _ _ _ _ (pv 0) (@pa_cons _ _ _ _ _ (pv 3) (@pa_nil _) star_name) star_name) (by rfl) (by decide) (by rfl) (by rfl)) (@pe_callTy _ _ _ _ _ _ _ _ _ call_int1 (by rfl) T.b_int PyProof.Rows.boot_int (@pa_cons _ _ _ _ _ (@pe_cmpR _ _ _ _ _ _ _ _ op_eq (pv 1) (@pe_int _ _ _ _) (nomark _)) (@pa_nil _) star_cmp) (by decide) (by decide) (by rfl) (by rfl)))) (@pa_nil _) star_bin) (by rfl)) (@pg_name _ _ 6 _ sc_l_good.nd rfl (Or.inl rfl) (by first | exact .inl rfl | exact .inr rfl | assumption)) (@pss_one _ _ _ (@ps_expr _ _ _ _ (@pe_bm _ _ _ _ _ _ _ _ _ _ _ _ PySem.F.plainAttrs_list PySem.F.slot_list_append PySem.F.type_list_append mt_append (pv 5) (@pa_cons _ _ _ _ _ (@pe_op _ _ _ _ _ _ _ _ op_add_str (@pe_op _ _ _ _ _ _ _ _ op_add_str (@pe_fn _ _ _ _ _ _ _ _ _ _ _ _ _ _ T.l_text (ok_l_text T) hr (by decide) (@pa_cons _ _ _ _ _ (@pe_fn _ _ _ _ _ _ _ _ _ _ _ _ _ _ T.l_fraction (ok_l_fraction T) hr (by decide) (@pa_cons _ _ _ _ _ (pv 0) (@pa_nil _) star_name) (by rfl) (by decide) (by rfl) (by rfl)) (@pa_nil _) star_call) (by rfl) (by decide) (by rfl) (by rfl)) (@pe_str _ _ _ _)) (@pe_fn _ _ _ _ _ _ _ _ _ _ _ _ _ _ T.l_text (ok_l_text T) hr (by decide) (@pa_cons _ _ _ _ _ (@pe_fn _ _ _ _ _ _ _ _ _ _ _ _ _ _ T.l_fraction (ok_l_fraction T) hr (by decide) (@pa_cons _ _ _ _ _ (pv 0) (@pa_nil _) star_name) (by rfl) (by decide) (by rfl) (by rfl)) (@pa_nil _) star_call) (by rfl) (by decide) (by rfl) (by rfl))) (@pa_nil _) star_bin) (by rfl) (by rfl) (by rfl) (by rfl) (by rfl)) (by rfl))) (by intro _; rfl)) (@pss_one _ _ _ (@ps_expr _ _ _ _ (@pe_bm _ _ _ _ _ _ _ _ _ _ _ _ PySem.F.plainAttrs_list PySem.F.slot_list_append PySem.F.type_list_append mt_append (pv 2) (@pa_cons _ _ _ _ _ (@pe_bm _ _ _ _ _ _ _ _ _ _ _ _ PySem.F.plainAttrs_str PySem.F.slot_str_join PySem.F.type_str_join mt_join (@pe_str _ _ _ _) (@pa_cons _ _ _ _ _ (pv 5) (@pa_nil _) star_name) (by rfl) (by rfl) (by rfl) (by rfl) (by rfl)) (@pa_nil _) star_call) (by rfl) (by rfl) (by rfl) (by rfl) (by rfl)) (by rfl))))) (by intro _; rfl)) (@pss_one _ _ _ (@ps_ret _ _ _ _ (@pe_bm _ _ _ _ _ _ _ _ _ _ _ _ PySem.F.plainAttrs_str PySem.F.slot_str_join PySem.F.type_str_join mt_join (@pe_str _ _ _ _) (@pa_cons _ _ _ _ _ (pv 2) (@pa_nil _) star_name) (by rfl) (by rfl) (by rfl) (by rfl) (by rfl))))))))), ?_⟩
    refine st_ifN (pt_t (pu_eqI (pu_v rfl) pu_c)) (fun e => ?_) (fun e0 => ?_)
    · refine st_retG (gv_ftext hh rfl) ?_
      rintro _ H1 ⟨⟨s, rfl, ts⟩, hh1, s1⟩
      exact k s H1 (ts.mono (by decide)) hh1 s1
    refine st_ifN (pt_t (pu_eqI (pu_v rfl) pu_c)) (fun e => ?_) (fun e1 => ?_)
    · refine st_retG (R := fun v H' => ∃ u : Wi, v = .str u.text ∧ u.deep ≤ 4 ∧ u.names ∧ u.nums small ∧ HandAt H' hd sc ∧ SameB hd H H') (gv_callA (ga_cons (gv_callA (sp := sp_l_wishA) (R := fun v H' => ∃ u : Wi, DAt hd H' v u.d ∧ u.deep ≤ 4 ∧ u.names ∧ u.nums small ∧ HandAt H' hd sc ∧ SameB hd H H') (ga_cons (Pu.gv (v := .ref hd) (pu_v rfl)) fun _ _ r => ga_cons (gv_draw1 (m := 4) (by obtain ⟨_, rfl⟩ := r; exact hh) (pa_c (pu_v rfl) (pa_c pu_c pa_n)) (by decide) Bd.small) fun _ _ _ => ga_nil) ?_) fun _ _ _ => ga_nil) ?_) ?_
      · rintro _ H2 ⟨_, _, _, rfl, ⟨rfl, rfl⟩, _, _, _, rfl, ⟨⟨m, rfl, m0, m1⟩, hh2, s2⟩, rfl, rfl⟩ Q q
        obtain ⟨n, rfl⟩ : ∃ n : Nat, m = (n : Int) := ⟨m.toNat, by omega⟩
        exact ⟨n, by omega, hd, sc, rfl, by omega, hh2, fun v u H' h1 h2 h3 h4 a s => q _ _ ⟨u, h1, by omega, h2, h3, a, s2.trans s⟩⟩
      · rintro _ H2 ⟨v, _, _, rfl, ⟨u, du, dp, nn, nk, hh2, s2⟩, rfl, rfl⟩ Q q
        exact ⟨hd, v, u, rfl, du, by omega, by decide, nn, nums_mono (fun k h => bd_60 h) u nk, fun H' s' => q _ _ ⟨u, rfl, dp, nn, nk, hh2.same s', s2.trans s'.b⟩⟩
      · rintro _ H2 ⟨u, rfl, dp, nn, nk, hh2, s2⟩
        have := wi_l 4 u dp nn nk
        exact k _ H2 ⟨this.1, Nat.le_trans (show u.text.length ≤ 100 * 2 ^ 4 by omega) (by decide)⟩ hh2 s2
    refine st_setG gv_nil ?_
    rintro _ _ ⟨pr, hpr, rfl, rfl⟩
    have nr := hh.fresh hpr
    refine st_setG (gv_pick (ys := [3, 4, 4, 12]) (m := 12) (hh.same (Same.upd hpr)) (pa_c pu_c (pa_c pu_c (pa_c pu_c (pa_c pu_c pa_n)))) (by decide) (by decide) (by decide) (fun _ => pa_c (pu_v rfl) (pa_c pu_c pa_n))) ?_
    rintro _ H2 ⟨⟨wd, rfl, w0, w1⟩, hh2, s2⟩
    have hpr2 := s2 _ _ upd_same nr.1
    have s02 := (Same.upd (o := .lst []) hpr).b.trans s2
    refine st_rangeG (ga_cons (gv_cnt (m := 4) hh2 (pa_c (pu_v rfl) (pa_c pu_c pa_n)) (by decide) (by decide) rfl) fun _ _ _ => ga_nil) ?_
    rintro _ H3 ⟨_, _, r, rfl, ⟨⟨n, rfl, n0, n1⟩, hh3, s3⟩, rfl, rfl⟩
    refine ⟨n, rfl, by omega, by omega, fun i σ H' => HandAt H' hd sc ∧ SameB hd H H' ∧ (∃ rs : List Str, rs.length = i ∧ (∀ r ∈ rs, TxL 3000 r) ∧ H' pr = some (.lst (rs.map V.str))) ∧ ∃ z1 z2 z3 : Option V, σ = [some (.ref hd), some (.int d), some (.ref pr), some (.int wd), z1, z2, z3], ⟨hh3, s02.trans s3, ⟨[], rfl, (fun r hr => by cases hr), s3 _ _ hpr2 nr.1⟩, _, _, _, rfl⟩, ?_, ?_⟩
    · rintro i σ H4 hi ⟨hh4, s4, ⟨rs, hrl, hrs, hpr4⟩, z1, z2, z3, rfl⟩
      refine st_setG gv_nil ?_
      rintro _ _ ⟨pw, hpw, rfl, rfl⟩
      have nw := hh4.fresh hpw
      have npw : pr ≠ pw := ne_of_none hpr4 hpw
      refine st_rangeG (ga_cons (gv_cnt (m := wd) (hh4.same (Same.upd hpw)) (pa_c (pu_v rfl) (pa_c (pu_v rfl) pa_n)) w0 (by omega) rfl) fun _ _ _ => ga_nil) ?_
      rintro _ H5 ⟨_, _, r, rfl, ⟨⟨m, rfl, m0, m1⟩, hh5, s5⟩, rfl, rfl⟩
      have hpw5 := s5 _ _ upd_same nw.1
      have s45 := (Same.upd (o := .lst []) hpw).b.trans s5
      refine ⟨m, rfl, by omega, by omega, fun j σ H' => HandAt H' hd sc ∧ SameB hd H4 H' ∧ (∃ ts : List Str, ts.length = j ∧ (∀ r ∈ ts, TxL 247 r) ∧ H' pw = some (.lst (ts.map V.str))) ∧ ∃ z1 z3 : Option V, σ = [some (.ref hd), some (.int d), some (.ref pr), some (.int wd), z1, some (.ref pw), z3], ⟨hh5, s45, ⟨[], rfl, (fun r hr => by cases hr), hpw5⟩, _, _, rfl⟩, ?_, ?_⟩
      · rintro j σ H6 hj ⟨hh6, s6, ⟨ts, htl, hts, hpw6⟩, y1, y3, rfl⟩
        refine st_app1 (R := fun v H' => (∃ s, v = .str s ∧ TxL 247 s) ∧ HandAt H' hd sc ∧ SameB hd H6 H') (pu_v rfl) hpw6 (gv_opG' (R1 := fun v H' => (∃ s, v = .str s ∧ TxL 124 s) ∧ HandAt H' hd sc ∧ SameB hd H6 H') (R2 := fun x v H' => (∃ s, x = .str s ∧ TxL 124 s) ∧ (∃ s, v = .str s ∧ TxL 123 s) ∧ HandAt H' hd sc ∧ SameB hd H6 H') (gv_opG' (R2 := fun x v H' => (∃ s, x = .str s ∧ TxL 123 s) ∧ v = .str (Str.ofString ",") ∧ HandAt H' hd sc ∧ SameB hd H6 H') (gv_ftext hh6 rfl) (fun x H7 r7 => Pu.gv' pu_c ⟨r7.1, rfl, r7.2⟩) ?_) (fun x H7 r7 => (gv_ftext r7.2.1 rfl).imp fun v H8 r8 => ⟨r7.1, r8.1, r8.2.1, r7.2.2.trans r8.2.2⟩) ?_) ?_
        · rintro _ _ H7 ⟨⟨s, rfl, ts'⟩, rfl, hh7, s7⟩ Q q
          exact ⟨s, _, rfl, rfl, Nat.le_trans (Nat.add_le_add ts'.2 (show (Str.ofString ",").length ≤ 1 by decide +kernel)) (by decide), q _ _ ⟨⟨_, rfl, ts'.app (n := 1) ⟨by decide +kernel, by decide +kernel⟩⟩, hh7, s7⟩⟩
        · rintro _ _ H7 ⟨⟨s, rfl, ts1⟩, ⟨s', rfl, ts2⟩, hh7, s7⟩ Q q
          exact ⟨s, s', rfl, rfl, Nat.le_trans (Nat.add_le_add ts1.2 ts2.2) (by decide), q _ _ ⟨⟨_, rfl, ts1.app ts2⟩, hh7, s7⟩⟩
        · rintro _ H7 ⟨⟨x, rfl, tx'⟩, hh7, s7⟩
          have hpw7 := s7 _ _ hpw6 nw.1
          refine ⟨_, hpw7, small1000 (by rw [List.length_map]; omega), hh7.upd nw, ?_, ⟨ts ++ [x], by simp [htl], ?_, ?_⟩, _, _, rfl⟩
          · intro b o e n
            rw [upd_ne (ne_of_none e hpw)]
            exact (s6.trans s7) b o e n
          · intro y hy
            rcases List.mem_append.mp hy with h | h
            · exact hts y h
            · rw [List.mem_singleton.mp h]; exact tx'
          · rw [upd_same, List.map_append]; rfl
      · rintro σ H6 ⟨hh6, s6, ⟨ts, htl, hts, hpw6⟩, y1, y3, rfl⟩
        have hpr6 := s6 _ _ hpr4 nr.1
        have tl12 : ts.length ≤ 12 := by omega
        refine st_app1 (R := fun v H' => v = .str (Str.join (Str.ofString " ") ts) ∧ H6 = H') (pu_v rfl) hpr6 (gv_join (R := fun v H' => v = .ref pw ∧ H6 = H') (fun _ => pu_c) ((pu_v rfl).gv' ⟨rfl, rfl⟩) ?_) ?_
        · rintro _ _ ⟨rfl, rfl⟩
          exact ⟨pw, ts, rfl, hpw6, joinOk_of (b := 247) (m := 12) (fun t ht => (hts t ht).2) tl12 (by decide +kernel), rfl, rfl⟩
        · rintro _ _ ⟨rfl, rfl⟩
          refine ⟨_, hpr6, small1000 (by rw [List.length_map]; omega), hh6.upd nr, ?_, ⟨rs ++ [Str.join (Str.ofString " ") ts], by simp [hrl], ?_, ?_⟩, _, _, _, rfl⟩
          · intro b o e n
            rw [upd_ne (ne_of_none e hpr)]
            exact (s4.trans s6) b o e n
          · intro y hy
            rcases List.mem_append.mp hy with h | h
            · exact hrs y h
            · rw [List.mem_singleton.mp h]
              have := TxL.join (m := 247) (k := 1) (sep := Str.ofString " ") ⟨by decide +kernel, by decide +kernel⟩ ts hts
              exact this.mono (by omega)
          · rw [upd_same, List.map_append]; rfl
    · rintro σ H4 ⟨hh4, s4, ⟨rs, hrl, hrs, hpr4⟩, z1, z2, z3, rfl⟩
      have rl4 : rs.length ≤ 4 := by omega
      refine st_retG (R := fun v H' => v = .str (Str.join (Str.ofString " | ") rs) ∧ H4 = H') (gv_join (R := fun v H' => v = .ref pr ∧ H4 = H') (fun _ => pu_c) ((pu_v rfl).gv' ⟨rfl, rfl⟩) ?_) ?_
      · rintro _ _ ⟨rfl, rfl⟩
        exact ⟨pr, rs, rfl, hpr4, joinOk_of (b := 3000) (m := 4) (fun t ht => (hrs t ht).2) rl4 (by decide +kernel), rfl, rfl⟩
      · rintro _ _ ⟨rfl, rfl⟩
        have := TxL.join (m := 3000) (k := 3) (sep := Str.ofString " | ") ⟨by decide +kernel, by decide +kernel⟩ rs hrs
        exact k _ _ (this.mono (by omega)) hh4 s4
def wordsA : List Str := [Str.ofString "in", Str.ofString "no", Str.ofString "least", Str.ofString "round", Str.ofString "both", Str.ofString "any", Str.ofString "a", Str.ofString "1", Str.ofString "-2", Str.ofString "|", Str.ofString "0,1", Str.ofString "1/2,3", Str.ofString "3/6", Str.ofString "4/1", Str.ofString "-0"]
def wordsB : List Str := [Str.ofString "", Str.ofString "007", Str.ofString "2/-3", Str.ofString "1,2,3", Str.ofString "A", Str.ofString "1/0", Str.ofString "5/2/3", Str.ofString "--1", Str.ofString "+1", Str.ofString "1.5", Str.ofString "1_0", Str.ofString "0/7"]
theorem words_ok : ∀ x ∈ wordsA ++ wordsB, TxL 20 x := by
  have h : ∀ x ∈ wordsA ++ wordsB, (∀ c ∈ x.cps.toList, c < 128) ∧ x.length ≤ 20 := by decide +kernel
  exact h
def sp_l_word : Sp := fun vs H Q _ => ∃ hd sc, vs = [.ref hd] ∧ HandAt H hd sc ∧ ∀ s H', TxL 20 s → HandAt H' hd sc → SameB hd H H' → Q (.str s) H'
theorem gv_word {σ : L2.St} {H : Hp} {hd sc : Addr} {t : TA} (hh : HandAt H hd sc) (ha : PuA t σ H [.ref hd]) : Gv (tCall sp_l_word [] E0 t) σ H (fun v H' => (∃ s, v = .str s ∧ TxL 20 s) ∧ HandAt H' hd sc ∧ SameB hd H H') :=
  gv_call ha fun Q f => ⟨hd, sc, rfl, hh, fun s H' ts a b => f _ _ ⟨⟨s, rfl, ts⟩, a, b⟩⟩
theorem sc_l_word : FnScope ["_law_hand_here", "_law_words"] ["_law_hand_here"] (defScope s_l_word) := ⟨rfl, rfl, rfl, by decide +kernel, rfl, by decide +kernel, by decide +kernel⟩
theorem ok_l_word (T : Txt K mg t w) : FnOk P w K mg base CX0 4 t.f_l_word t.d_l_word ["_law_hand_here"] sp_l_word := by
  refine T.l_word.F.ok (k := 3) sc_l_word (fun vs H Q E h => ?_) (fun cdv A outer s H vs Q E hr h => ?_)
  · obtain ⟨hd, sc, rfl, _⟩ := h
    rfl
  · obtain ⟨hd, sc, rfl, hh, k⟩ := h
    refine ⟨_, (@pss_cons _ _ _ _ _ (@ps_set _ _ 1 _ _ _ _ sc_l_word.nd rfl (Or.inl rfl) (@pe_lst _ _ _ _ (@pa_cons _ _ _ _ _ (@pe_str _ _ _ _) (@pa_cons _ _ _ _ _ (@pe_str _ _ _ _) (@pa_cons _ _ _ _ _ (@pe_str _ _ _ _) (@pa_cons _ _ _ _ _ (@pe_str _ _ _ _) (@pa_cons _ _ _ _ _ (@pe_str _ _ _ _) (@pa_cons _ _ _ _ _ (@pe_str _ _ _ _) (@pa_cons _ _ _ _ _ (@pe_str _ _ _ _) (@pa_cons _ _ _ _ _ (@pe_str _ _ _ _) (@pa_cons _ _ _ _ _ (@pe_str _ _ _ _) (@pa_cons _ _ _ _ _ (@pe_str _ _ _ _) (@pa_cons _ _ _ _ _ (@pe_str _ _ _ _) (@pa_cons _ _ _ _ _ (@pe_str _ _ _ _) (@pa_cons _ _ _ _ _ (@pe_str _ _ _ _) (@pa_cons _ _ _ _ _ (@pe_str _ _ _ _) (@pa_cons _ _ _ _ _ (@pe_str _ _ _ _) (@pa_nil _) star_con) star_con) star_con) star_con) star_con) star_con) star_con) star_con) star_con) star_con) star_con) star_con) star_con) star_con) star_con)) (by rfl) (by first | exact .inl rfl | exact .inr rfl | assumption)) (@pss_cons _ _ _ _ _ (@ps_set _ _ 1 _ _ _ _ sc_l_word.nd rfl (Or.inl rfl) (@pe_op _ _ _ _ _ _ _ _ op_cat (pv 1) (@pe_lst _ _ _ _ (@pa_cons _ _ _ _ _ (@pe_str _ _ _ _) (@pa_cons _ _ _ _ _ (@pe_str _ _ _ _) (@pa_cons _ _ _ _ _ (@pe_str _ _ _ _) (@pa_cons _ _ _ _ _ (@pe_str _ _ _ _) (@pa_cons _ _ _ _ _ (@pe_str _ _ _ _) (@pa_cons _ _ _ _ _ (@pe_str _ _ _ _) (@pa_cons _ _ _ _ _ (@pe_str _ _ _ _) (@pa_cons _ _ _ _ _ (@pe_str _ _ _ _) (@pa_cons _ _ _ _ _ (@pe_str _ _ _ _) (@pa_cons _ _ _ _ _ (@pe_str _ _ _ _) (@pa_cons _ _ _ _ _ (@pe_str _ _ _ _) (@pa_cons _ _ _ _ _ (@pe_str _ _ _ _) (@pa_nil _) star_con) star_con) star_con) star_con) star_con) star_con) star_con) star_con) star_con) star_con) star_con) star_con))) (by rfl) (by first | exact .inl rfl | exact .inr rfl | assumption)) (@pss_one _ _ _ (@ps_ret _ _ _ _ (@pe_ix _ _ _ _ _ _ _ ix_list (pv 1) (@pe_fn _ _ _ _ _ _ _ _ _ _ _ _ _ _ T.l_draw (ok_l_draw T) hr (by decide) (@pa_cons _ _ _ _ _ (pv 0) (@pa_cons _ _ _ _ _ (@pe_int _ _ _ _) (@pa_nil _) star_con) star_name) (by rfl) (by decide) (by rfl) (by rfl)) (fun _ _ => rfl)))))), ?_⟩
    refine st_setG (gv_lst (vs := wordsA.map V.str) (pa_c pu_c (pa_c pu_c (pa_c pu_c (pa_c pu_c (pa_c pu_c (pa_c pu_c (pa_c pu_c (pa_c pu_c (pa_c pu_c (pa_c pu_c (pa_c pu_c (pa_c pu_c (pa_c pu_c (pa_c pu_c (pa_c pu_c pa_n))))))))))))))) (by decide)) ?_
    rintro _ _ ⟨l1, h1, rfl, rfl⟩
    have s1 : Same H (upd H l1 (.lst (wordsA.map V.str))) := Same.upd h1
    have e1 : (upd H l1 (.lst (wordsA.map V.str))) l1 = some (.lst (wordsA.map V.str)) := upd_same
    revert s1 e1
    generalize upd H l1 (.lst (wordsA.map V.str)) = H1
    intro s1 e1
    refine st_setG (R := fun v H' => ∃ l, v = .ref l ∧ H l = none ∧ Same H H' ∧ H' l = some (.lst ((wordsA ++ wordsB).map V.str))) (gv_opG' (R1 := fun v H' => v = .ref l1 ∧ H1 = H') (R2 := fun x v H' => x = .ref l1 ∧ ∃ l2, H1 l2 = none ∧ v = .ref l2 ∧ H' = upd H1 l2 (.lst (wordsB.map V.str))) (Pu.gv' (pu_v rfl) ⟨rfl, rfl⟩) ?_ ?_) ?_
    · rintro _ _ ⟨rfl, rfl⟩
      exact (gv_lst (vs := wordsB.map V.str) (pa_c pu_c (pa_c pu_c (pa_c pu_c (pa_c pu_c (pa_c pu_c (pa_c pu_c (pa_c pu_c (pa_c pu_c (pa_c pu_c (pa_c pu_c (pa_c pu_c (pa_c pu_c pa_n)))))))))))) (by decide)).imp fun v H' r => ⟨rfl, r⟩
    · rintro _ _ _ ⟨rfl, l2, h2, rfl, rfl⟩ Q q
      refine ⟨l1, l2, _, _, rfl, rfl, Same.upd h2 _ _ e1, upd_same, by decide, fun p hp => q _ _ ⟨p, rfl, same_none (s1.trans (Same.upd h2)) hp, s1.trans ((Same.upd h2).trans (Same.upd hp)), ?_⟩⟩
      rw [upd_same, List.map_append]
    rintro _ H3 ⟨l, rfl, hl, s3, h3⟩
    have nl := hh.fresh hl
    refine st_retG (R := fun v H' => ∃ s, v = .str s ∧ TxL 20 s ∧ HandAt H' hd sc ∧ SameB hd H H') (gv_opG' (R1 := fun v H' => v = .ref l ∧ H3 = H') (R2 := fun x v H' => x = .ref l ∧ (∃ n : Int, v = .int n ∧ 0 ≤ n ∧ n < 27) ∧ HandAt H' hd sc ∧ SameB hd H3 H') (Pu.gv' (pu_v rfl) ⟨rfl, rfl⟩) ?_ ?_) fun v H' ⟨s, e, a, b, c⟩ => by subst e; exact k s H' a b c
    · rintro _ _ ⟨rfl, rfl⟩
      exact (gv_draw (hh.same s3) (pa_c (pu_v rfl) (pa_c pu_c pa_n)) (by decide) Bd.small).imp fun v H' r => ⟨rfl, r⟩
    · rintro _ _ H4 ⟨rfl, ⟨m, rfl, m0, m1⟩, hh4, s4⟩ Q q
      have hm : m.toNat < (wordsA ++ wordsB).length := by show m.toNat < 27; omega
      have hat : atI ((wordsA ++ wordsB).map V.str) m = some (.str (wordsA ++ wordsB)[m.toNat]) := by
        have := atI_nat (xs := (wordsA ++ wordsB).map V.str) (j := m.toNat) (v := .str (wordsA ++ wordsB)[m.toNat]) (by rw [List.getElem?_map, List.getElem?_eq_getElem hm]; rfl)
        rwa [show ((m.toNat : Nat) : Int) = m by omega] at this
      exact ⟨l, _, m, _, rfl, rfl, SqL.of (s4 _ _ h3 nl.1), hat, q _ _ ⟨_, rfl, words_ok _ (List.getElem_mem hm), hh4, s3.b.trans s4⟩⟩
def tot (ts : List Str) : Nat := (ts.map fun t => t.length + 1).sum
theorem tot_app (a b : List Str) : tot (a ++ b) = tot a + tot b := by simp [tot]
theorem tot_cons (a : Str) (b : List Str) : tot (a :: b) = a.length + 1 + tot b := by simp [tot]
theorem b_one : (Str.ofString " ").length = 1 := by decide +kernel
theorem join_tot : ∀ (ts : List Str), (Str.join (Str.ofString " ") ts).length ≤ tot ts - 1 ∧ (ts ≠ [] → tot ts = (Str.join (Str.ofString " ") ts).length + 1)
  | [] => ⟨Nat.zero_le _, fun h => absurd rfl h⟩
  | [a] => by
    show a.length ≤ _ ∧ (_ → _ = a.length + 1)
    simp [tot]
  | a :: b :: r => by
    have ih := (join_tot (b :: r)).2 (by simp)
    rw [tot_cons]
    show (a ++ Str.ofString " " ++ Str.join (Str.ofString " ") (b :: r)).length ≤ _ ∧ (_ → _ = (a ++ Str.ofString " " ++ Str.join (Str.ofString " ") (b :: r)).length + 1)
    rw [app_len, app_len, b_one]
    constructor
    · omega
    · intro _
      omega
theorem split_tot (s : Str) : tot (Txt.split s (Str.ofString " ")) = s.length + 1 := by
  have := (join_tot (Txt.split s (Str.ofString " "))).2 (split_ne (one_len _ (by simp)))
  rwa [PySem.StrLaws.join_split] at this
theorem fold_tot : ∀ (ts : List Str) (z : Nat), ts.foldl (fun a t => a + t.length + (Str.ofString " ").length) z = z + tot ts
  | [], z => rfl
  | a :: r, z => by
    rw [List.foldl_cons, fold_tot r, tot_cons, b_one]
    omega
theorem joinOk_tot {ts : List Str} (h : tot ts ≤ 1000000) : PySem.JoinOk (Str.ofString " ") ts = true := by
  unfold PySem.JoinOk Builtin.Str.tooLong
  rw [List.foldl_toArray']
  · rw [Bool.not_eq_true', decide_eq_false_iff_not, fold_tot]
    have : sizeLine = 16777216 := by decide
    omega
  · rfl
theorem join_asc {ts : List Str} (h : ∀ t ∈ ts, ∀ c ∈ t.cps.toList, c < 128) : ∀ c ∈ (Str.join (Str.ofString " ") ts).cps.toList, c < 128 := by
  match ts with
  | [] => exact fun c hc => (nomatch (show c ∈ ([] : List Nat) from hc))
  | [a] => exact h a (by simp)
  | a :: b :: r =>
    intro c hc
    have hc' : c ∈ (a ++ Str.ofString " " ++ Str.join (Str.ofString " ") (b :: r)).cps.toList := hc
    rw [app_list, app_list] at hc'
    rcases List.mem_append.mp hc' with hc | hc
    · rcases List.mem_append.mp hc with hc | hc
      · exact h a (by simp) c hc
      · have : ∀ c ∈ (Str.ofString " ").cps.toList, c < 128 := by decide +kernel
        exact this c hc
    · exact join_asc (fun t ht => h t (List.mem_cons_of_mem _ ht)) c hc
def LAt (hd sc : Addr) (H0 : Hp) (xs : List V) (v : V) (H' : Hp) : Prop := ∃ p, v = .ref p ∧ H0 p = none ∧ H' p = some (.lst xs) ∧ HandAt H' hd sc ∧ SameB hd H0 H'
theorem sameB_none {hd sc : Addr} {H H1 : Hp} (hh : HandAt H hd sc) (hh1 : HandAt H1 hd sc) (s : SameB hd H H1) {p : Addr} (h : H1 p = none) : H p = none := by
  cases e : H p with
  | none => rfl
  | some o =>
    by_cases z : p = hd
    · obtain ⟨ys, hy⟩ := hh1.ls
      rw [z, hy] at h
      cases h
    · rw [s _ _ e z] at h
      cases h
theorem gv_catH {σ : L2.St} {H : Hp} {hd sc : Addr} {ta tb : TE} {Ra Rb : List V → Prop} (hh : HandAt H hd sc) (ha : Gv ta σ H (fun v H' => ∃ xs, Ra xs ∧ LAt hd sc H xs v H')) (hb : ∀ H1, HandAt H1 hd sc → SameB hd H H1 → Gv tb σ H1 (fun v H' => ∃ ys, Rb ys ∧ LAt hd sc H1 ys v H')) (hl : ∀ xs ys, Ra xs → Rb ys → xs.length + ys.length ≤ sizeLine) : Gv (tOp rCat ta tb) σ H (fun v H' => ∃ zs, (∃ xs ys, Ra xs ∧ Rb ys ∧ zs = xs ++ ys) ∧ LAt hd sc H zs v H') := by
  refine gv_opG' (R2 := fun x v H' => ∃ xs ys p q, Ra xs ∧ Rb ys ∧ x = .ref p ∧ v = .ref q ∧ H' p = some (.lst xs) ∧ H' q = some (.lst ys) ∧ HandAt H' hd sc ∧ SameB hd H H') ha ?_ ?_
  · rintro x H1 ⟨xs, rx, p, rfl, hp, hp1, hh1, s1⟩
    refine (hb H1 hh1 s1).imp ?_
    rintro _ H2 ⟨ys, ry, q, rfl, hq, hq2, hh2, s2⟩
    exact ⟨xs, ys, p, q, rx, ry, rfl, rfl, s2 _ _ hp1 (hh.fresh hp).1, hq2, hh2, s1.trans s2⟩
  · rintro _ _ H2 ⟨xs, ys, p, q, rx, ry, rfl, rfl, hp, hq, hh2, s2⟩ Q g
    exact ⟨p, q, xs, ys, rfl, rfl, hp, hq, hl _ _ rx ry, fun r hr => g _ _ ⟨_, ⟨xs, ys, rx, ry, rfl⟩, r, rfl, sameB_none hh hh2 s2 hr, upd_same, hh2.same (Same.upd hr), s2.trans (Same.upd hr).b⟩⟩
theorem LAt.of {hd sc p : Addr} {H : Hp} {xs : List V} (hh : HandAt H hd sc) (hp : H p = none) : LAt hd sc H xs (.ref p) (upd H p (.lst xs)) := ⟨p, rfl, hp, upd_same, hh.same (Same.upd hp), (Same.upd hp).b⟩
theorem st_putG1 {σ : L2.St} {H : Hp} {D : Ends} {te to ti : TE} {R : V → Hp → Prop} (h : Gv te σ H R) (q : ∀ v H', R v H' → ∃ (p : Addr) (k : Int) (xs : List V) (j : Nat), Pu to σ H' (.ref p) ∧ Pu ti σ H' (.int k) ∧ H' p = some (.lst xs) ∧ ixN xs.length k = some j ∧ D.nx σ (upd H' p (.lst (xs.set j v)))) : tAsg te (gSub to ti rSetL) D σ H := h _ fun v H' r => by
  obtain ⟨p, k, xs, j, ho, hi, hp, hj, g⟩ := q v H' r
  exact (st_put1 (te := tC v) pu_c ho hi hp hj g : tAsg (tC v) (gSub to ti rSetL) D σ H')
theorem ixN_nat {n i : Nat} (h : i < n) : ixN n (i : Int) = some i := by
  unfold ixN
  rw [if_pos (by omega), if_pos (by omega)]
  rfl
def sp_l_spoilt_words : Sp := fun vs H Q _ => ∃ hd sc s m, vs = [.ref hd, .str s] ∧ HandAt H hd sc ∧ TxL m s ∧ m ≤ 24100 ∧ ∀ s' H', TxL (2 * m + 30) s' → HandAt H' hd sc → SameB hd H H' → Q (.str s') H'
theorem sc_l_spoilt_words : FnScope ["_law_hand_here", "_law_text_here", "_law_words", "_law_at", "_law_way"] ["_law_hand_here", "_law_text_here"] (defScope s_l_spoilt_words) := ⟨rfl, rfl, rfl, by decide +kernel, rfl, by decide +kernel, by decide +kernel⟩
theorem ok_l_spoilt_words (T : Txt K mg t w) : FnOk P w K mg base CX0 5 t.f_l_spoilt_words t.d_l_spoilt_words ["_law_hand_here", "_law_text_here"] sp_l_spoilt_words := by
  refine T.l_spoilt_words.F.ok (k := 4) sc_l_spoilt_words (fun vs H Q E h => ?_) (fun cdv A outer s H vs Q E hr h => ?_)
  · obtain ⟨hd, sc, s, m, rfl, _⟩ := h
    rfl
  · obtain ⟨hd, sc, s, m, rfl, hh, tx, hm, k⟩ := h
    refine ⟨_, (@pss_cons _ _ _ _ _ (@ps_set _ _ 2 _ _ _ _ sc_l_spoilt_words.nd rfl (Or.inl rfl) (@pe_bm _ _ _ _ _ _ _ _ _ _ _ _ PySem.F.plainAttrs_str PySem.F.slot_str_split PySem.F.type_str_split mt_split (pv 1) (@pa_cons _ _ _ _ _ (@pe_str _ _ _ _) (@pa_nil _) star_con) (by rfl) (by rfl) (by rfl) (by rfl) (by rfl)) (by rfl) (by first | exact .inl rfl | exact .inr rfl | assumption)) (@pss_cons _ _ _ _ _ (@ps_set _ _ 3 _ _ _ _ sc_l_spoilt_words.nd rfl (Or.inl rfl) (@pe_fn _ _ _ _ _ _ _ _ _ _ _ _ _ _ T.l_draw (ok_l_draw T) hr (by decide) (@pa_cons _ _ _ _ _ (pv 0) (@pa_cons _ _ _ _ _ (@pe_callB _ _ _ _ _ _ _ _ _ call_len_seq (by rfl) T.b_len PySem.boot_len (@pa_cons _ _ _ _ _ (pv 2) (@pa_nil _) star_name) (by decide) (by decide) (by rfl) (by rfl)) (@pa_nil _) star_call) star_name) (by rfl) (by decide) (by rfl) (by rfl)) (by rfl) (by first | exact .inl rfl | exact .inr rfl | assumption)) (@pss_cons _ _ _ _ _ (@ps_set _ _ 4 _ _ _ _ sc_l_spoilt_words.nd rfl (Or.inl rfl) (@pe_fn _ _ _ _ _ _ _ _ _ _ _ _ _ _ T.l_draw (ok_l_draw T) hr (by decide) (@pa_cons _ _ _ _ _ (pv 0) (@pa_cons _ _ _ _ _ (@pe_int _ _ _ _) (@pa_nil _) star_con) star_name) (by rfl) (by decide) (by rfl) (by rfl)) (by rfl) (by first | exact .inl rfl | exact .inr rfl | assumption)) (@pss_cons _ _ _ _ _ (@ps_if _ _ _ _ _ _ _ _ (@pt_cmpR _ _ _ _ _ _ _ _ op_eq (pv 4) (@pe_int _ _ _ _) (nomark _)) (@pss_one _ _ _ (@ps_set _ _ 2 _ _ _ _ sc_l_spoilt_words.nd rfl (Or.inl rfl) (@pe_op _ _ _ _ _ _ _ _ op_cat (@pe_op _ _ _ _ _ _ _ _ op_cat (@pe_slice _ _ _ _ _ _ _ _ _ _ sl_list (pv 2) (@po_none _) (@po_some _ _ _ (pv 3))) (@pe_lst _ _ _ _ (@pa_cons _ _ _ _ _ (@pe_fn _ _ _ _ _ _ _ _ _ _ _ _ _ _ T.l_word (ok_l_word T) hr (by decide) (@pa_cons _ _ _ _ _ (pv 0) (@pa_nil _) star_name) (by rfl) (by decide) (by rfl) (by rfl)) (@pa_nil _) star_call))) (@pe_slice _ _ _ _ _ _ _ _ _ _ sl_list (pv 2) (@po_some _ _ _ (pv 3)) (@po_none _))) (by rfl) (by first | exact .inl rfl | exact .inr rfl | assumption))) (@pss_nil _)) (@pss_cons _ _ _ _ _ (@ps_if _ _ _ _ _ _ _ _ (@pt_cmpR _ _ _ _ _ _ _ _ op_eq (pv 4) (@pe_int _ _ _ _) (nomark _)) (@pss_one _ _ _ (@ps_asg _ _ _ _ _ _ (@pe_fn _ _ _ _ _ _ _ _ _ _ _ _ _ _ T.l_word (ok_l_word T) hr (by decide) (@pa_cons _ _ _ _ _ (pv 0) (@pa_nil _) star_name) (by rfl) (by decide) (by rfl) (by rfl)) (@pg_sub _ _ _ _ _ _ _ (pv 2) (pv 3) set_list (by intro _; rfl)) (by rfl) (by rfl) (by rfl))) (@pss_nil _)) (@pss_cons _ _ _ _ _ (@ps_if _ _ _ _ _ _ _ _ (@pt_cmpR _ _ _ _ _ _ _ _ op_eq (pv 4) (@pe_int _ _ _ _) (nomark _)) (@pss_one _ _ _ (@ps_set _ _ 2 _ _ _ _ sc_l_spoilt_words.nd rfl (Or.inl rfl) (@pe_op _ _ _ _ _ _ _ _ op_cat (@pe_slice _ _ _ _ _ _ _ _ _ _ sl_list (pv 2) (@po_none _) (@po_some _ _ _ (pv 3))) (@pe_slice _ _ _ _ _ _ _ _ _ _ sl_list (pv 2) (@po_some _ _ _ (@pe_op _ _ _ _ _ _ _ _ op_add (pv 3) (@pe_int _ _ _ _))) (@po_none _))) (by rfl) (by first | exact .inl rfl | exact .inr rfl | assumption))) (@pss_nil _)) (@pss_cons _ _ _ _ _ (@ps_if _ _ _ _ _ _ _ _ (@pt_cmpR _ _ _ _ _ _ _ _ op_eq (pv 4) (@pe_int _ _ _ _) (nomark _)) (@pss_one _ _ _ (@ps_set _ _ 2 _ _ _ _ sc_l_spoilt_words.nd rfl (Or.inl rfl) (@pe_op _ _ _ _ _ _ _ _ op_cat (@pe_op _ _ _ _ _ _ _ _ op_cat (@pe_slice _ _ _ _ _ _ _ _ _ _ sl_list (pv 2) (@po_none _) (@po_some _ _ _ (pv 3))) (@pe_lst _ _ _ _ (@pa_cons _ _ _ _ _ (@pe_ix _ _ _ _ _ _ _ ix_list (pv 2) (pv 3) (fun _ _ => rfl)) (@pa_nil _) star_sub))) (@pe_slice _ _ _ _ _ _ _ _ _ _ sl_list (pv 2) (@po_some _ _ _ (pv 3)) (@po_none _))) (by rfl) (by first | exact .inl rfl | exact .inr rfl | assumption))) (@pss_nil _)) (@pss_one _ _ _ (@ps_ret _ _ _ _ (@pe_bm _ _ _ _ _ _ _ _ _ _ _ _ PySem.F.plainAttrs_str PySem.F.slot_str_join PySem.F.type_str_join mt_join (@pe_str _ _ _ _) (@pa_cons _ _ _ _ _ (pv 2) (@pa_nil _) star_name) (by rfl) (by rfl) (by rfl) (by rfl) (by rfl))))))))))), ?_⟩
    have tok : TxOk s := ⟨tx.1, Nat.le_trans tx.2 (by omega)⟩
    have tl := tx.2
    have big : 1000000 ≤ sizeLine := by decide
    refine st_setG (gv_spl (pu_v rfl) pu_c tok (one_len _ (by simp))) ?_
    rintro _ _ ⟨l, hl, rfl, rfl⟩
    have nl := hh.fresh hl
    have s0 : Same H (upd H l (.lst ((Txt.split s (Str.ofString " ")).map V.str))) := Same.upd hl
    have hl0 : (upd H l (.lst ((Txt.split s (Str.ofString " ")).map V.str))) l = some (.lst ((Txt.split s (Str.ofString " ")).map V.str)) := upd_same
    have ne := split_ne (x := s) (y := Str.ofString " ") (one_len _ (by simp))
    have lc := split_count (x := s) (y := Str.ofString " ") (one_len _ (by simp))
    have tt := split_tot s
    have asc : ∀ q ∈ Txt.split s (Str.ofString " "), ∀ c ∈ q.cps.toList, c < 128 := fun q hq => (split_ok tok hq).1
    have wl : ∀ q ∈ Txt.split s (Str.ofString " "), q.length ≤ s.length := fun q hq => (split_sub hq).2
    revert s0 hl0 ne lc tt asc wl
    generalize upd H l (.lst ((Txt.split s (Str.ofString " ")).map V.str)) = H1
    generalize Txt.split s (Str.ofString " ") = ws
    intro s0 hl0 ne lc tt asc wl
    have wpos : 0 < ws.length := List.length_pos_iff.mpr ne
    have hh1 := hh.same s0
    refine st_setG (gv_draw (m := (ws.length : Int)) hh1 (pa_c (pu_v rfl) (pa_c (pu_cast (pu_lenL (pa_c (pu_v rfl) pa_n) (SqL.of hl0)) (by rw [List.length_map])) pa_n)) (by omega) (Bd.small (by omega))) ?_
    rintro _ H2 ⟨⟨i, rfl, i0, i1⟩, hh2, s2⟩
    obtain ⟨i, rfl⟩ : ∃ n : Nat, i = (n : Int) := ⟨i.toNat, by omega⟩
    have hi : i < ws.length := by omega
    refine st_setG (gv_draw hh2 (pa_c (pu_v rfl) (pa_c pu_c pa_n)) (by decide) Bd.small) ?_
    rintro _ H3 ⟨⟨y, rfl, y0, y1⟩, hh3, s3⟩
    have hl3 := s3 _ _ (s2 _ _ hl0 nl.1) nl.1
    have s03 := (s0.b.trans s2).trans s3
    -- the end
    have fin : ∀ {D : Ends} {σ : L2.St} {H' : Hp} {l' : Addr} {us : List Str}, D.rt = Q → σ[2]? = some (some (.ref l')) → H' l' = some (.lst (us.map V.str)) → (∀ q ∈ us, ∀ c ∈ q.cps.toList, c < 128) → tot us ≤ 2 * m + 31 → HandAt H' hd sc → SameB hd H H' → tRet (tBM K "str" (fun x xs H_1 Q => ∃ a l ys, x = V.str a ∧ xs = [V.ref l] ∧ SqL K H_1 l (List.map V.str ys) ∧ PySem.JoinOk a ys = true ∧ Q (V.str (a.join ys)) H_1) (tC (.str (Str.ofString " "))) (tCons (tVar 2) tNil)) D σ H' := fun {D σ H' l' us} ed h2 hl' ha ht hh' s' => by
      refine st_retG (R := fun v H'' => v = .str (Str.join (Str.ofString " ") us) ∧ H' = H'') (gv_join (R := fun v H'' => v = .ref l' ∧ H' = H'') (fun _ => pu_c) ((pu_v h2).gv' ⟨rfl, rfl⟩) ?_) ?_
      · rintro _ _ ⟨rfl, rfl⟩
        exact ⟨l', us, rfl, hl', joinOk_tot (by omega), rfl, rfl⟩
      · rintro _ _ ⟨rfl, rfl⟩
        rw [ed]
        have := (join_tot us).1
        exact k _ _ ⟨join_asc ha, by omega⟩ hh' s'
    have TO : ∀ {σ : L2.St} {H' : Hp}, σ[2]? = some (some (.ref l)) → σ[3]? = some (some (.int (i : Int))) → HandAt H' hd sc → SameB hd H3 H' → Gv (tSl (rSlL K) (tVar 2) tNoPart (tPart (tVar 3))) σ H' (fun v H'' => ∃ xs, xs = (ws.take i).map V.str ∧ LAt hd sc H' xs v H'') := fun {σ H'} h2 h3 hh' s' => (gv_lTo (k := i) (pu_v h2) (pu_v h3) (s' _ _ hl3 nl.1)).imp fun v H'' ⟨p, hp, e1, e2⟩ => by
      subst e1 e2
      exact ⟨_, rfl, by rw [← List.map_take]; exact LAt.of hh' hp⟩
    have FR : ∀ {σ : L2.St} {H' : Hp}, σ[2]? = some (some (.ref l)) → σ[3]? = some (some (.int (i : Int))) → HandAt H' hd sc → SameB hd H3 H' → Gv (tSl (rSlL K) (tVar 2) (tPart (tVar 3)) tNoPart) σ H' (fun v H'' => ∃ xs, xs = (ws.drop i).map V.str ∧ LAt hd sc H' xs v H'') := fun {σ H'} h2 h3 hh' s' => (gv_lFrom (k := i) (pu_v h2) (pu_v h3) (s' _ _ hl3 nl.1)).imp fun v H'' ⟨p, hp, e1, e2⟩ => by
      subst e1 e2
      exact ⟨_, rfl, by rw [← List.map_drop]; exact LAt.of hh' hp⟩
    have tsplit : tot (ws.take i) + tot (ws.drop i) = s.length + 1 := by rw [← tot_app, List.take_append_drop, tt]
    have tl1 : (ws.take i).length ≤ 30000 := by rw [List.length_take]; omega
    have dl1 : (ws.drop i).length ≤ 30000 := by rw [List.length_drop]; omega
    have w4 : y = 0 ∨ y = 1 ∨ y = 2 ∨ y = 3 := by omega
    have Fb : ∀ {c : Int} {y : Int} {σ : L2.St} {H' : Hp}, y ≠ c → σ[4]? = some (some (.int y)) → PuT (tTest (tOp rEq (tVar 4) (tC (.int c)))) σ H' false := fun hne h4 => pu_cast2 (pt_t (pu_eqI (pu_v h4) pu_c)) (decide_eq_false hne)
    have Tb : ∀ {y : Int} {σ : L2.St} {H' : Hp}, σ[4]? = some (some (.int y)) → PuT (tTest (tOp rEq (tVar 4) (tC (.int y)))) σ H' true := fun h4 => pu_cast2 (pt_t (pu_eqI (pu_v h4) pu_c)) (decide_eq_true rfl)
    have mem1 : ∀ {q : Str} {n : Nat}, q ∈ ws.take n → ∀ c ∈ q.cps.toList, c < 128 := fun h => asc _ (List.mem_of_mem_take h)
    have mem2 : ∀ {q : Str} {n : Nat}, q ∈ ws.drop n → ∀ c ∈ q.cps.toList, c < 128 := fun h => asc _ (List.mem_of_mem_drop h)
    have edr : ws.drop i = ws[i] :: ws.drop (i + 1) := List.drop_eq_getElem_cons hi
    have tdr : tot (ws.drop i) = ws[i].length + 1 + tot (ws.drop (i + 1)) := by rw [edr, tot_cons]
    have hwi := wl ws[i] (List.getElem_mem hi)
    rcases w4 with rfl | rfl | rfl | rfl
    · refine st_ifN (Tb rfl) (fun _ => ?_) (fun e => by cases e)
      refine st_setG1 (gv_catH hh3 (gv_catH hh3 (TO rfl rfl hh3 Same.rfl'.b) (fun H4 hh4 s4 => (gv_lstA (RA := fun vs H' => (∃ w, vs = [.str w] ∧ TxL 20 w) ∧ HandAt H' hd sc ∧ SameB hd H4 H') (R := fun v H' => ∃ ys, (∃ w, ys = [.str w] ∧ TxL 20 w) ∧ LAt hd sc H4 ys v H') (fun Q2 q2 => gv_word hh4 (pa_c (pu_v rfl) pa_n) _ ?_) ?_)) ?_) (fun H4 hh4 s4 => FR rfl rfl hh4 s4) ?_) ?_
      · rintro _ H5 ⟨⟨w, rfl, tw⟩, hh5, s5⟩
        exact q2 _ _ ⟨⟨w, rfl, tw⟩, hh5, s5⟩
      · rintro _ H5 ⟨⟨w, rfl, tw⟩, hh5, s5⟩
        exact ⟨by show 1 ≤ sizeLine; decide, fun p hp => ⟨_, ⟨w, rfl, tw⟩, p, rfl, sameB_none hh4 hh5 s5 hp, upd_same, hh5.same (Same.upd hp), s5.trans (Same.upd hp).b⟩⟩
      · rintro _ _ rfl ⟨w, rfl, tw⟩
        rw [List.length_map]
        show (ws.take i).length + 1 ≤ sizeLine
        omega
      · rintro _ _ ⟨_, _, rfl, ⟨w, rfl, tw⟩, rfl⟩ rfl
        rw [List.length_append, List.length_map, List.length_map]
        show (ws.take i).length + 1 + (ws.drop i).length ≤ sizeLine
        omega
      · rintro _ H4 ⟨_, ⟨_, _, ⟨_, _, rfl, ⟨w, rfl, tw⟩, rfl⟩, rfl, rfl⟩, p, rfl, hp, hp4, hh4, s4⟩
        refine st_ifN (Fb (by decide) rfl) (fun e => by cases e) (fun _ => ?_)
        refine st_ifN (Fb (by decide) rfl) (fun e => by cases e) (fun _ => ?_)
        refine st_ifN (Fb (by decide) rfl) (fun e => by cases e) (fun _ => ?_)
        refine fin (us := ws.take i ++ [w] ++ ws.drop i) rfl rfl (by rw [hp4]; simp) (fun q hq => ?_) ?_ hh4 (s03.trans s4)
        · rcases List.mem_append.mp hq with hq | hq
          · rcases List.mem_append.mp hq with hq | hq
            · exact mem1 hq
            · rw [List.mem_singleton.mp hq]
              exact tw.1
          · exact mem2 hq
        · have := tw.2
          rw [tot_app, tot_app, tot_cons]
          show _ + (_ + 0) + _ ≤ _
          omega
    · refine st_ifN (Fb (by decide) rfl) (fun e => by cases e) (fun _ => ?_)
      refine st_ifN (Tb rfl) (fun _ => ?_) (fun e => by cases e)
      refine st_putG1 (gv_word hh3 (pa_c (pu_v rfl) pa_n)) ?_
      rintro _ H4 ⟨⟨w, rfl, tw⟩, hh4, s4⟩
      refine ⟨l, (i : Int), _, i, pu_v rfl, pu_v rfl, s4 _ _ hl3 nl.1, by rw [List.length_map]; exact ixN_nat hi, ?_⟩
      refine st_ifN (Fb (by decide) rfl) (fun e => by cases e) (fun _ => ?_)
      refine st_ifN (Fb (by decide) rfl) (fun e => by cases e) (fun _ => ?_)
      have ese : ws.set i w = ws.take i ++ w :: ws.drop (i + 1) := by rw [List.set_eq_take_append_cons_drop, if_pos hi]
      refine fin (l' := l) (us := ws.set i w) rfl rfl (by rw [upd_same, List.map_set]) (fun q hq => ?_) ?_ (hh4.upd nl) (fun b o e n => ?_)
      · rw [ese] at hq
        rcases List.mem_append.mp hq with hq | hq
        · exact mem1 hq
        · rcases List.mem_cons.mp hq with rfl | hq
          · exact tw.1
          · exact mem2 hq
      · have := tw.2
        rw [ese, tot_app, tot_cons]
        omega
      · rw [upd_ne (ne_of_none e hl)]
        exact (s03.trans s4) b o e n
    · refine st_ifN (Fb (by decide) rfl) (fun e => by cases e) (fun _ => ?_)
      refine st_ifN (Fb (by decide) rfl) (fun e => by cases e) (fun _ => ?_)
      refine st_ifN (Tb rfl) (fun _ => ?_) (fun e => by cases e)
      refine st_setG1 (gv_catH (Rb := fun ys => ys = (ws.drop (i + 1)).map V.str) hh3 (TO rfl rfl hh3 Same.rfl'.b) (fun H4 hh4 s4 => (gv_lFrom (k := i + 1) (pu_v rfl) (pu_cast (pu_add (pu_v rfl) pu_c) rfl) (s4 _ _ hl3 nl.1)).imp fun v H'' ⟨p, hp, e1, e2⟩ => by
        subst e1 e2
        exact ⟨_, rfl, by rw [List.map_drop]; exact LAt.of hh4 hp⟩) ?_) ?_
      · rintro _ _ rfl rfl
        rw [List.length_map, List.length_map, List.length_drop]
        omega
      · rintro _ H4 ⟨_, ⟨_, _, rfl, rfl, rfl⟩, p, rfl, hp, hp4, hh4, s4⟩
        refine st_ifN (Fb (by decide) rfl) (fun e => by cases e) (fun _ => ?_)
        refine fin (us := ws.take i ++ ws.drop (i + 1)) rfl rfl (by rw [hp4, List.map_append]) (fun q hq => ?_) ?_ hh4 (s03.trans s4)
        · rcases List.mem_append.mp hq with hq | hq
          · exact mem1 hq
          · exact mem2 hq
        · rw [tot_app]
          omega
    · refine st_ifN (Fb (by decide) rfl) (fun e => by cases e) (fun _ => ?_)
      refine st_ifN (Fb (by decide) rfl) (fun e => by cases e) (fun _ => ?_)
      refine st_ifN (Fb (by decide) rfl) (fun e => by cases e) (fun _ => ?_)
      have hat : atI (ws.map V.str) (i : Int) = some (.str ws[i]) := atI_nat (j := i) (by rw [List.getElem?_map, List.getElem?_eq_getElem hi]; rfl)
      refine st_ifN (Tb rfl) (fun _ => ?_) (fun e => by cases e)
      refine st_setG1 (gv_catH hh3 (gv_catH (Rb := fun ys => ys = [.str ws[i]]) hh3 (TO rfl rfl hh3 Same.rfl'.b) (fun H4 hh4 s4 => (gv_lst (pa_c (pu_ixL (pu_v rfl) (pu_v rfl) (SqL.of (s4 _ _ hl3 nl.1)) hat) pa_n) (by show 1 ≤ sizeLine; decide)).imp fun v H'' ⟨p, hp, e1, e2⟩ => by
        subst e1 e2
        exact ⟨_, rfl, LAt.of hh4 hp⟩) ?_) (fun H4 hh4 s4 => FR rfl rfl hh4 s4) ?_) ?_
      · rintro _ _ rfl rfl
        rw [List.length_map]
        show (ws.take i).length + 1 ≤ sizeLine
        omega
      · rintro _ _ ⟨_, _, rfl, rfl, rfl⟩ rfl
        rw [List.length_append, List.length_map, List.length_map]
        show (ws.take i).length + 1 + (ws.drop i).length ≤ sizeLine
        omega
      · rintro _ H4 ⟨_, ⟨_, _, ⟨_, _, rfl, rfl, rfl⟩, rfl, rfl⟩, p, rfl, hp, hp4, hh4, s4⟩
        refine fin (us := ws.take i ++ [ws[i]] ++ ws.drop i) rfl rfl (by rw [hp4, List.map_append, List.map_append]; rfl) (fun q hq => ?_) ?_ hh4 (s03.trans s4)
        · rcases List.mem_append.mp hq with hq | hq
          · rcases List.mem_append.mp hq with hq | hq
            · exact mem1 hq
            · rw [List.mem_singleton.mp hq]
              exact asc _ (List.getElem_mem hi)
          · exact mem2 hq
        · rw [tot_app, tot_app, tot_cons]
          show _ + (_ + 0) + _ ≤ _
          omega
def sgnA : Str := Str.ofString " -01/,|a7+.A_e29:;("
def sgnB : Str := Str.ofString " !\"#$&'()*+,-./0123456789:;<=>?@ABCDEFGHIJKLMNOPQRSTUVWXYZ[\\]^_`abcdefghijklmnopqrstuvwxyz{|}~"
theorem sgnA_ok : (∀ c ∈ sgnA.cps.toList, c < 128) ∧ sgnA.length = 19 := by decide +kernel
theorem sgnB_ok : (∀ c ∈ sgnB.cps.toList, c < 128) ∧ 0 < sgnB.length ∧ sgnB.length ≤ 100 := by decide +kernel
theorem gv_sign {σ : L2.St} {H : Hp} {hd sc : Addr} {t : TA} {te : TE} {S : Str} {n : Nat} (hh : HandAt H hd sc) (he : Pu te σ H (.str S)) (ha : PuA t σ H [.ref hd, .int (n : Int)]) (hn : S.length = n) (h0 : 0 < n) (h1 : n ≤ 1000) (hs : ∀ c ∈ S.cps.toList, c < 128) : Gv (tOp rIxS te (tCall sp_l_draw [] E0 t)) σ H (fun v H' => (∃ c, v = .str ⟨#[c]⟩ ∧ c < 128) ∧ HandAt H' hd sc ∧ SameB hd H H') := by
  refine gv_opG' (R1 := fun v H' => v = .str S ∧ H = H') (R2 := fun x v H' => x = .str S ∧ (∃ k : Int, v = .int k ∧ 0 ≤ k ∧ k < n) ∧ HandAt H' hd sc ∧ SameB hd H H') (Pu.gv' he ⟨rfl, rfl⟩) ?_ ?_
  · rintro _ _ ⟨rfl, rfl⟩
    exact (gv_draw hh ha (by omega) (Bd.small (by omega))).imp fun v H' r => ⟨rfl, r⟩
  · rintro _ _ H2 ⟨rfl, ⟨m, rfl, m0, m1⟩, hh2, s2⟩ Q q
    have big : 1000 ≤ sizeLine := by decide
    have hm : m.toNat < S.cps.toList.length := by rw [L2.len_list]; omega
    have hat : atI S.cps.toList m = some S.cps.toList[m.toNat] := by
      have := atI_nat (xs := S.cps.toList) (j := m.toNat) (v := S.cps.toList[m.toNat]) (List.getElem?_eq_getElem hm)
      rwa [show ((m.toNat : Nat) : Int) = m by omega] at this
    exact ⟨_, m, _, rfl, rfl, by omega, hat, q _ _ ⟨⟨_, rfl, hs _ (List.getElem_mem hm)⟩, hh2, s2⟩⟩
theorem TxL.take {m i : Nat} {s : Str} (h : TxL m s) : TxL m ⟨(s.cps.toList.take i).toArray⟩ := by
  refine ⟨fun c hc => h.1 c (List.mem_of_mem_take (i := i) hc), ?_⟩
  have := h.2
  rw [← L2.len_list] at this ⊢
  show (s.cps.toList.take i).length ≤ m
  rw [List.length_take]
  omega
theorem TxL.drop {m i : Nat} {s : Str} (h : TxL m s) : TxL m ⟨(s.cps.toList.drop i).toArray⟩ := by
  refine ⟨fun c hc => h.1 c (List.mem_of_mem_drop (i := i) hc), ?_⟩
  have := h.2
  rw [← L2.len_list] at this ⊢
  show (s.cps.toList.drop i).length ≤ m
  rw [List.length_drop]
  omega
theorem TxL.take1 {m : Nat} {s : Str} (h : TxL m s) : TxL 1 ⟨(s.cps.toList.take 1).toArray⟩ := by
  refine ⟨(h.take (i := 1)).1, ?_⟩
  rw [← L2.len_list]
  show (s.cps.toList.take 1).length ≤ 1
  rw [List.length_take]
  omega
theorem TxL.cut12 {m : Nat} {s : Str} (h : TxL m s) : TxL 1 ⟨(cutL s.cps.toList (some 1) (some 2)).toArray⟩ := by
  refine ⟨fun c hc => h.1 c (List.mem_of_mem_drop (List.mem_of_mem_take hc)), ?_⟩
  rw [← L2.len_list]
  show (cutL s.cps.toList (some 1) (some 2)).length ≤ 1
  unfold cutL
  rw [List.length_take]
  have h1 : HT.sIx s.cps.toList.length 0 (some (1 : Int)) = min 1 s.cps.toList.length := six_nat _ _ 1
  have h2 : HT.sIx s.cps.toList.length s.cps.toList.length (some (2 : Int)) = min 2 s.cps.toList.length := six_nat _ _ 2
  rw [h1, h2]
  omega
def sp_l_spoilt : Sp := fun vs H Q _ => ∃ hd sc s m, vs = [.ref hd, .str s] ∧ HandAt H hd sc ∧ TxL m s ∧ m ≤ 24100 ∧ ∀ s' H', TxL (2 * m + 30) s' → HandAt H' hd sc → SameB hd H H' → Q (.str s') H'
theorem sc_l_spoilt : FnScope ["_law_hand_here", "_law_text_here", "_law_at", "_law_sign", "_law_signs", "_law_way", "_law_rest"] ["_law_hand_here", "_law_text_here"] (defScope s_l_spoilt) := ⟨rfl, rfl, rfl, by decide +kernel, rfl, by decide +kernel, by decide +kernel⟩
theorem ok_l_spoilt (T : Txt K mg t w) : FnOk P w K mg base CX0 6 t.f_l_spoilt t.d_l_spoilt ["_law_hand_here", "_law_text_here"] sp_l_spoilt := by
  refine T.l_spoilt.F.ok (k := 5) sc_l_spoilt (fun vs H Q E h => ?_) (fun cdv A outer s H vs Q E hr h => ?_)
  · obtain ⟨hd, sc, s, m, rfl, _⟩ := h
    rfl
  · obtain ⟨hd, sc, s, m, rfl, hh, tx, hm, k⟩ := h
    refine ⟨_, (@pss_cons _ _ _ _ _ (@ps_if _ _ _ _ _ _ _ _ (@pt_cmpR _ _ _ _ _ _ _ _ op_eq (@pe_fn _ _ _ _ _ _ _ _ _ _ _ _ _ _ T.l_draw (ok_l_draw T) hr (by decide) (@pa_cons _ _ _ _ _ (pv 0) (@pa_cons _ _ _ _ _ (@pe_int _ _ _ _) (@pa_nil _) star_con) star_name) (by rfl) (by decide) (by rfl) (by rfl)) (@pe_int _ _ _ _) (nomark _)) (@pss_one _ _ _ (@ps_ret _ _ _ _ (@pe_fn _ _ _ _ _ _ _ _ _ _ _ _ _ _ T.l_spoilt_words (ok_l_spoilt_words T) hr (by decide) (@pa_cons _ _ _ _ _ (pv 0) (@pa_cons _ _ _ _ _ (pv 1) (@pa_nil _) star_name) star_name) (by rfl) (by decide) (by rfl) (by rfl)))) (@pss_nil _)) (@pss_cons _ _ _ _ _ (@ps_set _ _ 2 _ _ _ _ sc_l_spoilt.nd rfl (Or.inl rfl) (@pe_fn _ _ _ _ _ _ _ _ _ _ _ _ _ _ T.l_draw (ok_l_draw T) hr (by decide) (@pa_cons _ _ _ _ _ (pv 0) (@pa_cons _ _ _ _ _ (@pe_op _ _ _ _ _ _ _ _ op_add (@pe_callB _ _ _ _ _ _ _ _ _ call_len_str (by rfl) T.b_len PySem.boot_len (@pa_cons _ _ _ _ _ (pv 1) (@pa_nil _) star_name) (by decide) (by decide) (by rfl) (by rfl)) (@pe_int _ _ _ _)) (@pa_nil _) star_bin) star_name) (by rfl) (by decide) (by rfl) (by rfl)) (by rfl) (by first | exact .inl rfl | exact .inr rfl | assumption)) (@pss_cons _ _ _ _ _ (@ps_set _ _ 3 _ _ _ _ sc_l_spoilt.nd rfl (Or.inl rfl) (@pe_ix _ _ _ _ _ _ _ ix_str (@pe_str _ _ _ _) (@pe_fn _ _ _ _ _ _ _ _ _ _ _ _ _ _ T.l_draw (ok_l_draw T) hr (by decide) (@pa_cons _ _ _ _ _ (pv 0) (@pa_cons _ _ _ _ _ (@pe_int _ _ _ _) (@pa_nil _) star_con) star_name) (by rfl) (by decide) (by rfl) (by rfl)) (fun _ _ => rfl)) (by rfl) (by first | exact .inl rfl | exact .inr rfl | assumption)) (@pss_cons _ _ _ _ _ (@ps_if _ _ _ _ _ _ _ _ (@pt_cmpR _ _ _ _ _ _ _ _ op_eq (@pe_fn _ _ _ _ _ _ _ _ _ _ _ _ _ _ T.l_draw (ok_l_draw T) hr (by decide) (@pa_cons _ _ _ _ _ (pv 0) (@pa_cons _ _ _ _ _ (@pe_int _ _ _ _) (@pa_nil _) star_con) star_name) (by rfl) (by decide) (by rfl) (by rfl)) (@pe_int _ _ _ _) (nomark _)) (@pss_cons _ _ _ _ _ (@ps_set _ _ 4 _ _ _ _ sc_l_spoilt.nd rfl (Or.inl rfl) (@pe_str _ _ _ _) (by rfl) (by first | exact .inl rfl | exact .inr rfl | assumption)) (@pss_one _ _ _ (@ps_set _ _ 3 _ _ _ _ sc_l_spoilt.nd rfl (Or.inl rfl) (@pe_ix _ _ _ _ _ _ _ ix_str (pv 4) (@pe_fn _ _ _ _ _ _ _ _ _ _ _ _ _ _ T.l_draw (ok_l_draw T) hr (by decide) (@pa_cons _ _ _ _ _ (pv 0) (@pa_cons _ _ _ _ _ (@pe_callB _ _ _ _ _ _ _ _ _ call_len_str (by rfl) T.b_len PySem.boot_len (@pa_cons _ _ _ _ _ (pv 4) (@pa_nil _) star_name) (by decide) (by decide) (by rfl) (by rfl)) (@pa_nil _) star_call) star_name) (by rfl) (by decide) (by rfl) (by rfl)) (fun _ _ => rfl)) (by rfl) (by first | exact .inl rfl | exact .inr rfl | assumption)))) (@pss_nil _)) (@pss_cons _ _ _ _ _ (@ps_set _ _ 5 _ _ _ _ sc_l_spoilt.nd rfl (Or.inl rfl) (@pe_fn _ _ _ _ _ _ _ _ _ _ _ _ _ _ T.l_draw (ok_l_draw T) hr (by decide) (@pa_cons _ _ _ _ _ (pv 0) (@pa_cons _ _ _ _ _ (@pe_int _ _ _ _) (@pa_nil _) star_con) star_name) (by rfl) (by decide) (by rfl) (by rfl)) (by rfl) (by first | exact .inl rfl | exact .inr rfl | assumption)) (@pss_cons _ _ _ _ _ (@ps_if _ _ _ _ _ _ _ _ (@pt_cmpR _ _ _ _ _ _ _ _ op_eq (pv 5) (@pe_int _ _ _ _) (nomark _)) (@pss_one _ _ _ (@ps_ret _ _ _ _ (@pe_op _ _ _ _ _ _ _ _ op_add_str (@pe_op _ _ _ _ _ _ _ _ op_add_str (@pe_slice _ _ _ _ _ _ _ _ _ _ sl_strG (pv 1) (@po_none _) (@po_some _ _ _ (pv 2))) (pv 3)) (@pe_slice _ _ _ _ _ _ _ _ _ _ sl_strG (pv 1) (@po_some _ _ _ (pv 2)) (@po_none _))))) (@pss_nil _)) (@pss_cons _ _ _ _ _ (@ps_if _ _ _ _ _ _ _ _ (@pt_cmpR _ _ _ _ _ _ _ _ op_eq (pv 5) (@pe_int _ _ _ _) (nomark _)) (@pss_one _ _ _ (@ps_ret _ _ _ _ (@pe_op _ _ _ _ _ _ _ _ op_add_str (@pe_op _ _ _ _ _ _ _ _ op_add_str (@pe_slice _ _ _ _ _ _ _ _ _ _ sl_strG (pv 1) (@po_none _) (@po_some _ _ _ (pv 2))) (pv 3)) (@pe_slice _ _ _ _ _ _ _ _ _ _ sl_strG (pv 1) (@po_some _ _ _ (@pe_op _ _ _ _ _ _ _ _ op_add (pv 2) (@pe_int _ _ _ _))) (@po_none _))))) (@pss_nil _)) (@pss_cons _ _ _ _ _ (@ps_if _ _ _ _ _ _ _ _ (@pt_cmpR _ _ _ _ _ _ _ _ op_eq (pv 5) (@pe_int _ _ _ _) (nomark _)) (@pss_one _ _ _ (@ps_ret _ _ _ _ (@pe_op _ _ _ _ _ _ _ _ op_add_str (@pe_slice _ _ _ _ _ _ _ _ _ _ sl_strG (pv 1) (@po_none _) (@po_some _ _ _ (pv 2))) (@pe_slice _ _ _ _ _ _ _ _ _ _ sl_strG (pv 1) (@po_some _ _ _ (@pe_op _ _ _ _ _ _ _ _ op_add (pv 2) (@pe_int _ _ _ _))) (@po_none _))))) (@pss_nil _)) (@pss_cons _ _ _ _ _ (@ps_set _ _ 6 _ _ _ _ sc_l_spoilt.nd rfl (Or.inl rfl) (@pe_slice _ _ _ _ _ _ _ _ _ _ sl_strG (pv 1) (@po_some _ _ _ (pv 2)) (@po_none _)) (by rfl) (by first | exact .inl rfl | exact .inr rfl | assumption)) (@pss_one _ _ _ (@ps_ret _ _ _ _ (@pe_op _ _ _ _ _ _ _ _ op_add_str (@pe_op _ _ _ _ _ _ _ _ op_add_str (@pe_op _ _ _ _ _ _ _ _ op_add_str (@pe_slice _ _ _ _ _ _ _ _ _ _ sl_strG (pv 1) (@po_none _) (@po_some _ _ _ (pv 2))) (@pe_slice _ _ _ _ _ _ _ _ _ _ sl_strG (pv 6) (@po_some _ _ _ (@pe_int _ _ _ _)) (@po_some _ _ _ (@pe_int _ _ _ _)))) (@pe_slice _ _ _ _ _ _ _ _ _ _ sl_strG (pv 6) (@po_none _) (@po_some _ _ _ (@pe_int _ _ _ _)))) (@pe_slice _ _ _ _ _ _ _ _ _ _ sl_strG (pv 6) (@po_some _ _ _ (@pe_int _ _ _ _)) (@po_none _)))))))))))))), ?_⟩
    have tl := tx.2
    have big : 1000000 ≤ sizeLine := by decide
    refine st_ifNG (R := fun _ H' => HandAt H' hd sc ∧ SameB hd H H') (fun Q q => ?_) (fun H1 r => ?_) (fun H1 r => ?_)
    · refine gv_draw hh (pa_c (pu_v rfl) (pa_c pu_c pa_n)) (by decide) Bd.small _ ?_
      rintro _ H2 ⟨⟨m, rfl, _, _⟩, hh2, s2⟩
      exact ⟨rfl, _, rfl, q _ _ ⟨hh2, s2⟩⟩
    · exact st_retG (R := fun v H' => ∃ s', v = .str s' ∧ TxL (2 * m + 30) s' ∧ HandAt H' hd sc ∧ SameB hd H1 H') (gv_call (sp := sp_l_spoilt_words) (pa_c (pu_v rfl) (pa_c (pu_v rfl) pa_n)) fun Q q => ⟨hd, sc, s, m, rfl, r.1, tx, hm, fun s' H' a b c => q _ _ ⟨s', rfl, a, b, c⟩⟩) fun v H' ⟨s', e, a, b, c⟩ => by subst e; exact k s' H' a b (r.2.trans c)
    obtain ⟨hh1, s1⟩ := r
    refine st_setG (gv_draw (m := ((s.length + 1 : Nat) : Int)) hh1 (pa_c (pu_v rfl) (pa_c (pu_cast (pu_add (pu_lenS (pa_c (pu_v rfl) pa_n) (by omega)) pu_c) rfl) pa_n)) (by omega) (Bd.small (by omega))) ?_
    rintro _ H2 ⟨⟨i, rfl, i0, i1⟩, hh2, s2⟩
    obtain ⟨i, rfl⟩ : ∃ n : Nat, i = (n : Int) := ⟨i.toNat, by omega⟩
    refine st_setG (gv_sign (S := sgnA) (n := 19) hh2 pu_c (pa_c (pu_v rfl) (pa_c pu_c pa_n)) sgnA_ok.2 (by decide) (by decide) sgnA_ok.1) ?_
    rintro _ H3 ⟨⟨c0, rfl, c01⟩, hh3, s3⟩
    have s03 := (s1.trans s2).trans s3
    refine st_ifRG (RB := fun _ H' => HandAt H' hd sc ∧ SameB hd H H') (fun σ' H' => HandAt H' hd sc ∧ SameB hd H H' ∧ ∃ c z, c < 128 ∧ σ' = [some (.ref hd), some (.str s), some (.int (i : Int)), some (.str ⟨#[c]⟩), z, none, none]) (fun Q q => ?_) (fun H4 r D' q _ => ?_) (fun H4 r => ⟨r.1, r.2, c0, _, c01, rfl⟩) ?_
    · refine gv_draw hh3 (pa_c (pu_v rfl) (pa_c pu_c pa_n)) (by decide) Bd.small _ ?_
      rintro _ H4 ⟨⟨m, rfl, _, _⟩, hh4, s4⟩
      exact ⟨rfl, _, rfl, q _ _ ⟨hh4, s03.trans s4⟩⟩
    · refine st_set (v := .str sgnB) pu_c ?_
      refine st_setG1 (gv_sign (S := sgnB) (n := sgnB.length) r.1 (pu_v rfl) (pa_c (pu_v rfl) (pa_c (pu_lenS (pa_c (pu_v rfl) pa_n) (by have := sgnB_ok.2.2; omega)) pa_n)) rfl sgnB_ok.2.1 (by have := sgnB_ok.2.2; omega) sgnB_ok.1) ?_
      rintro _ H5 ⟨⟨c, rfl, hc⟩, hh5, s5⟩
      exact q _ _ ⟨hh5, r.2.trans s5, c, _, hc, rfl⟩
    rintro _ H4 ⟨hh4, s4, c, z, hc, rfl⟩
    have tc : TxL 1 (⟨#[c]⟩ : Str) := ⟨fun d hd => by
      have : d = c := by simpa using hd
      rw [this]
      exact hc, Nat.le_refl 1⟩
    refine st_setG (gv_draw hh4 (pa_c (pu_v rfl) (pa_c pu_c pa_n)) (by decide) Bd.small) ?_
    rintro _ H5 ⟨⟨y, rfl, y0, y1⟩, hh5, s5⟩
    have s05 := s4.trans s5
    have TO : ∀ {σ : L2.St} {H' : Hp}, σ[1]? = some (some (.str s)) → σ[2]? = some (some (.int (i : Int))) → Pu (tSl rSlS (tVar 1) tNoPart (tPart (tVar 2))) σ H' (.str ⟨(s.cps.toList.take i).toArray⟩) := fun h1 h2 => pu_sTo (pu_v h1) (pu_v h2) (by omega)
    have FR : ∀ {σ : L2.St} {H' : Hp}, σ[1]? = some (some (.str s)) → σ[2]? = some (some (.int (i : Int))) → Pu (tSl rSlS (tVar 1) (tPart (tVar 2)) tNoPart) σ H' (.str ⟨(s.cps.toList.drop i).toArray⟩) := fun h1 h2 => pu_sFrom (pu_v h1) (pu_v h2) (by omega)
    have F1 : ∀ {σ : L2.St} {H' : Hp}, σ[1]? = some (some (.str s)) → σ[2]? = some (some (.int (i : Int))) → Pu (tSl rSlS (tVar 1) (tPart (tOp (rI0 fun i j => .int (i + j)) (tVar 2) (tC (.int 1)))) tNoPart) σ H' (.str ⟨(s.cps.toList.drop (i + 1)).toArray⟩) := fun h1 h2 => pu_sFrom (pu_v h1) (pu_cast (pu_add (pu_v h2) pu_c) rfl) (by omega)
    have tT := tx.take (i := i)
    have tD := tx.drop (i := i)
    have tE := tx.drop (i := i + 1)
    have lT := tT.2
    have lD := tD.2
    have lE := tE.2
    have lc := tc.2
    refine st_ifN (pt_t (pu_eqI (pu_v rfl) pu_c)) (fun _ => ?_) (fun _ => ?_)
    · have tr := (tT.app tc).app tD
      have lr := (tT.app tc).2
      exact st_ret (pu_addS (pu_addS (TO rfl rfl) (pu_v rfl) (by omega)) (FR rfl rfl) (by omega)) (k _ _ (tr.mono (by omega)) hh5 s05)
    refine st_ifN (pt_t (pu_eqI (pu_v rfl) pu_c)) (fun _ => ?_) (fun _ => ?_)
    · have tr := (tT.app tc).app tE
      have lr := (tT.app tc).2
      exact st_ret (pu_addS (pu_addS (TO rfl rfl) (pu_v rfl) (by omega)) (F1 rfl rfl) (by omega)) (k _ _ (tr.mono (by omega)) hh5 s05)
    refine st_ifN (pt_t (pu_eqI (pu_v rfl) pu_c)) (fun _ => ?_) (fun _ => ?_)
    · exact st_ret (pu_addS (TO rfl rfl) (F1 rfl rfl) (by omega)) (k _ _ ((tT.app tE).mono (by omega)) hh5 s05)
    refine st_set (FR rfl rfl) ?_
    have t12 := tD.cut12
    have t1 := tD.take1
    have t2 := tD.drop (i := 2)
    have l12 := t12.2
    have l1 := t1.2
    have l2 := t2.2
    have la := (tT.app t12).2
    have lb := ((tT.app t12).app t1).2
    exact st_ret (pu_addS (pu_addS (pu_addS (TO rfl rfl) (pu_sMid 1 2 (pu_v rfl) pu_c pu_c (by omega)) (by omega)) (pu_sTo (k := 1) (pu_v rfl) pu_c (by omega)) (by omega)) (pu_sFrom (k := 2) (pu_v rfl) pu_c (by omega)) (by omega)) (k _ _ ((((tT.app t12).app t1).app t2).mono (by omega)) hh5 s05)
def NewL (H H' : Hp) (p : Addr) (vs : List V) : Prop := H p = none ∧ Same H H' ∧ H' p = some (.lst vs)
def sp_l_top : Sp := fun vs H Q _ => ∃ s, vs = [.str s] ∧ TxOk s ∧ ∀ p H', NewL H H' p ((rW s).toList.map V.int) → Q (.ref p) H'
theorem gv_ltop {σ : L2.St} {H : Hp} {t : TA} {s : Str} (ha : PuA t σ H [.str s]) (hs : TxOk s) : Gv (tCall sp_l_top [] E0 t) σ H (fun v H' => ∃ p, v = .ref p ∧ NewL H H' p ((rW s).toList.map V.int)) := gv_call ha fun Q q => ⟨s, rfl, hs, fun p H' n => q _ _ ⟨p, rfl, n⟩⟩
theorem sc_l_top : FnScope ["_law_text_here", "_law_figures", "_law_sign"] ["_law_text_here"] (defScope s_l_top) := ⟨rfl, rfl, rfl, by decide +kernel, rfl, by decide +kernel, by decide +kernel⟩
theorem ok_l_top (T : Txt K mg t w) : FnOk P w K mg base CX0 1 t.f_l_top t.d_l_top ["_law_text_here"] sp_l_top := by
  refine T.l_top.F.ok (k := 0) sc_l_top (fun vs H Q E h => ?_) (fun cdv A outer s H vs Q E hr h => ?_)
  · obtain ⟨s, rfl, _⟩ := h
    rfl
  · obtain ⟨s, rfl, ⟨ha, hl⟩, k⟩ := h
    refine ⟨_, (@pss_cons _ _ _ _ _ (@ps_set _ _ 1 _ _ _ _ sc_l_top.nd rfl (Or.inl rfl) (pv 0) (by rfl) (by first | exact .inl rfl | exact .inr rfl | assumption)) (@pss_cons _ _ _ _ _ (@ps_if _ _ _ _ _ _ _ _ (@pt_cmpR _ _ _ _ _ _ _ _ op_eq (@pe_slice _ _ _ _ _ _ _ _ _ _ sl_strG (pv 0) (@po_none _) (@po_some _ _ _ (@pe_int _ _ _ _))) (@pe_str _ _ _ _) (nomark _)) (@pss_one _ _ _ (@ps_set _ _ 1 _ _ _ _ sc_l_top.nd rfl (Or.inl rfl) (@pe_slice _ _ _ _ _ _ _ _ _ _ sl_strG (pv 0) (@po_some _ _ _ (@pe_int _ _ _ _)) (@po_none _)) (by rfl) (by first | exact .inl rfl | exact .inr rfl | assumption))) (@pss_nil _)) (@pss_cons _ _ _ _ _ (@ps_if _ _ _ _ _ _ _ _ (PW.pt (@pw_or _ _ _ _ _ _ _ (@pt_cmpR _ _ _ _ _ _ _ _ op_eq (pv 1) (@pe_str _ _ _ _) (nomark _)) (@pw_or1 _ _ _ _ (@pt_cmpR _ _ _ _ _ _ _ _ op_gt (@pe_callB _ _ _ _ _ _ _ _ _ call_len_str (by rfl) T.b_len PySem.boot_len (@pa_cons _ _ _ _ _ (pv 1) (@pa_nil _) star_name) (by decide) (by decide) (by rfl) (by rfl)) (@pe_int _ _ _ _) (nomark _))))) (@pss_one _ _ _ (@ps_ret _ _ _ _ (@pe_lst _ _ _ _ (@pa_nil _)))) (@pss_nil _)) (@pss_cons _ _ _ _ _ (@ps_for _ _ _ _ _ _ _ _ PassesOwn.never rfl (@pi_str _ _ _ _ (pv 1)) (@pg_name _ _ 2 _ sc_l_top.nd rfl (Or.inl rfl) (by first | exact .inl rfl | exact .inr rfl | assumption)) (@pss_one _ _ _ (@ps_if _ _ _ _ _ _ _ _ (@pt_cmpR _ _ _ _ _ _ _ _ op_notIn_str (pv 2) (@pe_str _ _ _ _) rfl) (@pss_one _ _ _ (@ps_ret _ _ _ _ (@pe_lst _ _ _ _ (@pa_nil _)))) (@pss_nil _))) (by intro _; rfl)) (@pss_cons _ _ _ _ _ (@ps_if _ _ _ _ _ _ _ _ (PW.pt (@pw_and _ _ _ _ _ _ _ (@pt_cmpR _ _ _ _ _ _ _ _ op_eq (@pe_ix _ _ _ _ _ _ _ ix_str (pv 1) (@pe_int _ _ _ _) (fun _ _ => rfl)) (@pe_str _ _ _ _) (nomark _)) (@pw_and1 _ _ _ _ (@pt_cmpR _ _ _ _ _ _ _ _ op_ne (pv 0) (@pe_str _ _ _ _) (nomark _))))) (@pss_one _ _ _ (@ps_ret _ _ _ _ (@pe_lst _ _ _ _ (@pa_nil _)))) (@pss_nil _)) (@pss_one _ _ _ (@ps_ret _ _ _ _ (@pe_lst _ _ _ _ (@pa_cons _ _ _ _ _ (@pe_callTy _ _ _ _ _ _ _ _ _ call_intS (by rfl) T.b_int PyProof.Rows.boot_int (@pa_cons _ _ _ _ _ (pv 0) (@pa_nil _) star_name) (by decide) (by decide) (by rfl) (by rfl)) (@pa_nil _) star_call))))))))), ?_⟩
    have big : 1000000 ≤ sizeLine := by decide
    have fl := figL_len s
    have fs := figS_len s
    have e45 : ∀ {b : Bool}, decide ((⟨(s.cps.toList.take 1).toArray⟩ : Str) = Str.ofString "-") = b → decide (s.cps.toList[0]? = some 45) = b := fun {b} e => by
      rw [← e, s_minus]
      cases h : s.cps.toList with
      | nil => simp
      | cons c r => simp
    have no : wOk s = false → ∀ p, H p = none → Q (.ref p) (upd H p (.lst [])) := fun z p hp => k p _ ⟨hp, Same.upd hp, by rw [rW_no z]; exact upd_same⟩
    have nOk : ∀ {P : Prop}, P → (P → ¬ (wOk s = true)) → wOk s = false := fun p f => by
      cases h : wOk s with
      | false => rfl
      | true => exact absurd h (f p)
    refine st_set (pu_v rfl) ?_
    refine st_ifSet (R := fun v H' => v = .str (figS s) ∧ H = H') (v0 := .str s) (pt_t (pu_eqStr (pu_sTo (k := 1) (pu_v rfl) pu_c (by omega)) pu_c)) (fun e => Pu.gv' (pu_sFrom (k := 1) (pu_v rfl) pu_c (by omega)) ⟨?_, rfl⟩) rfl (fun e => ⟨?_, rfl⟩) ?_
    · have e' := of_decide_eq_true (e45 e)
      unfold figS figL
      rw [if_pos e']
    · have e' := of_decide_eq_false (e45 e)
      unfold figS figL
      rw [if_neg e']
    rintro _ _ ⟨rfl, rfl⟩
    have LE : ∀ {σ : L2.St} {H' : Hp}, σ[1]? = some (some (.str (figS s))) → Pu (tCB (fun xs H Q => ∃ z, xs = [.str z] ∧ z.length ≤ sizeLine ∧ Q (.int z.length) H) (tCons (tVar 1) tNil)) σ H' (.int ((figS s).length : Nat)) := fun h => pu_lenS (pa_c (pu_v h) pa_n) (by omega)
    have ez : decide (figS s = Str.ofString "") = decide ((figL s).length = 0) := by
      rw [decide_eq_decide]
      constructor
      · intro e
        rw [← fs, e]
        rfl
      · intro e
        unfold figS
        rw [List.eq_nil_of_length_eq_zero e]
        rfl
    by_cases h1 : (figL s).length = 0
    · refine st_ifN (b := true) (pt_or (b := true) (c := true) (pu_cast2 (pt_t (pu_eqStr (pu_v rfl) pu_c)) (by rw [ez]; exact decide_eq_true h1)) (fun e => by cases e)) (fun _ => ?_) (fun e => by cases e)
      exact st_retG gv_nil fun v H' ⟨p, hp, e1, e2⟩ => by subst e1 e2; exact no (nOk h1 fun p z => by have := ((wOk_iff s).mp z).1; omega) p hp
    by_cases h2 : 60 < (figL s).length
    · refine st_ifN (b := true) (pt_or (b := false) (c := true) (pu_cast2 (pt_t (pu_eqStr (pu_v rfl) pu_c)) (by rw [ez]; exact decide_eq_false h1)) fun _ => pu_cast2 (pt_t (pu_gt (LE rfl) pu_c)) (by rw [decide_eq_true_iff]; omega)) (fun _ => ?_) (fun e => by cases e)
      exact st_retG gv_nil fun v H' ⟨p, hp, e1, e2⟩ => by subst e1 e2; exact no (nOk h2 fun p z => by have := ((wOk_iff s).mp z).2.1; omega) p hp
    refine st_ifN (b := false) (pt_or (b := false) (c := false) (pu_cast2 (pt_t (pu_eqStr (pu_v rfl) pu_c)) (by rw [ez]; exact decide_eq_false h1)) fun _ => pu_cast2 (pt_t (pu_gt (LE rfl) pu_c)) (by rw [decide_eq_false_iff_not]; omega)) (fun e => by cases e) (fun _ => ?_)
    have fa : ∀ c ∈ (figS s).cps.toList, c < 128 := fun c hc => by
      have hc' : c ∈ figL s := hc
      unfold figL at hc'
      split at hc'
      · exact ha c (List.mem_of_mem_drop hc')
      · exact ha c hc'
    refine st_strl (s := figS s) (pu_v rfl) fa (fun i σ H' => H = H' ∧ (∀ c ∈ (figL s).take i, c ∈ ten.cps.toList) ∧ ∃ z, σ = [some (.str s), some (.str (figS s)), z]) ⟨rfl, (fun c hc => by simp at hc), _, rfl⟩ ?_ ?_
    · rintro i c σ _ hc ⟨rfl, hi, z, rfl⟩
      have hc' : (figL s)[i]? = some c := hc
      refine st_ifN1 (pt_t (pu_notInS (pu_v rfl) pu_c)) (fun e => ?_) (fun e => ?_)
      · exact st_retG gv_nil fun v H' ⟨p, hp, e1, e2⟩ => by
          subst e1 e2
          refine no (nOk e fun p z => ?_) p hp
          rw [Bool.not_eq_true', decide_eq_false_iff_not] at p
          exact p (((wOk_iff s).mp z).2.2.1 c (List.mem_of_getElem? hc'))
      · refine ⟨rfl, fun d hd => ?_, _, rfl⟩
        rw [List.take_succ, hc'] at hd
        rcases List.mem_append.mp hd with hd | hd
        · exact hi d hd
        · have : d = c := by simpa using hd
          subst this
          rw [Bool.not_eq_false', decide_eq_true_iff] at e
          exact e
    rintro σ _ ⟨rfl, hi, z, rfl⟩
    rw [fs, List.take_length] at hi
    have h0 : (figL s)[0]? = some ((figL s)[0]'(by omega)) := List.getElem?_eq_getElem (by omega)
    revert h0
    generalize (figL s)[0]'(by omega) = c0
    intro h0
    have TZ : PuT (tAnd (tTest (tOp rEq (tOp rIxS (tVar 1) (tC (.int 0))) (tC (.str (Str.ofString "0"))))) (tTest (tOp rNe (tVar 0) (tC (.str (Str.ofString "0")))))) [some (.str s), some (.str (figS s)), z] H (decide ((figL s)[0]? = some 48) && !decide (s = Str.ofString "0")) := by
      refine pt_and ?_ (fun e => pt_t (pu_neStr (pu_v rfl) pu_c))
      refine pu_cast2 (pt_t (pu_eqStr (pu_ixS' (i := 0) (c := c0) (pu_v rfl) pu_c (by omega) (by
        have := atI_nat (xs := (figS s).cps.toList) (j := 0) (v := c0) h0
        exact this)) pu_c)) ?_
      rw [h0, s_zero]
      simp
    refine st_ifN TZ (fun e => ?_) fun e => ?_
    · exact st_retG gv_nil fun v H' ⟨p, hp, e1, e2⟩ => by
        subst e1 e2
        refine no (nOk e fun p z => ?_) p hp
        rw [Bool.and_eq_true, decide_eq_true_iff, Bool.not_eq_true', decide_eq_false_iff_not] at p
        exact ((wOk_iff s).mp z).2.2.2 ⟨p.1, p.2⟩
    · have good : wOk s = true := (wOk_iff s).mpr ⟨by omega, by omega, hi, fun z => by
        rw [decide_eq_true z.1, decide_eq_false z.2] at e
        cases e⟩
      obtain ⟨rd, l61⟩ := wOk_int good
      refine st_retG (gv_lst (vs := [.int (wVal s)]) (pa_c (fun Q q => (pa_c (pu_v rfl) pa_n : PuA (tCons (tVar 0) tNil) _ _ [.str s]) _ ⟨s, wVal s, rfl, rd, by omega, q⟩) pa_n) (by show 1 ≤ sizeLine; decide)) ?_
      rintro _ _ ⟨p, hp, rfl, rfl⟩
      exact k p _ ⟨hp, Same.upd hp, by rw [rW_yes good]; exact upd_same⟩
def LdSp (r : Str → Option D) : Sp := fun vs H Q _ => ∃ s, vs = [.str s] ∧ TxOk s ∧ ∀ p ys H', NewL H H' p ys → ys.length = (r s).toList.length → (∀ hd, H hd ≠ none → DsAt hd H' ys (r s).toList) → Q (.ref p) H'
theorem LdSp.len {r : Str → Option D} {vs : List V} {H : Hp} {Q : VK} {E : XK} (h : LdSp r vs H Q E) : vs.length = 1 := by
  obtain ⟨s, rfl, _⟩ := h
  rfl
theorem gv_ld {r : Str → Option D} {σ : L2.St} {H : Hp} {t : TA} {s : Str} (ha : PuA t σ H [.str s]) (hs : TxOk s) : Gv (tCall (LdSp r) [] E0 t) σ H (fun v H' => ∃ p ys, v = .ref p ∧ NewL H H' p ys ∧ ys.length = (r s).toList.length ∧ ∀ hd, H hd ≠ none → DsAt hd H' ys (r s).toList) := gv_call ha fun Q q => ⟨s, rfl, hs, fun p ys H' n l d => q _ _ ⟨p, ys, rfl, n, l, d⟩⟩
def sp_l_fraction_by : Sp := LdSp fun s => (rF s).map dF
theorem gv_eqNil {σ : L2.St} {H : Hp} {to : TE} {a : Addr} {xs : List V} (ho : Pu to σ H (.ref a)) (ha : H a = some (.lst xs)) : Gv (tOp (fun x y H Q => ∃ a b xs, x = .ref a ∧ y = .ref b ∧ H a = some (.lst xs) ∧ H b = some (.lst []) ∧ Q (.bl xs.isEmpty) H) to (tLst tNil)) σ H (fun v H' => v = .bl xs.isEmpty ∧ Same H H') := fun Q q =>
  ho _ (gv_nil _ fun v H' ⟨p, hp, e1, e2⟩ => by
    subst e1 e2
    exact ⟨a, p, xs, rfl, rfl, Same.upd hp _ _ ha, upd_same, q _ _ ⟨rfl, Same.upd hp⟩⟩)
theorem gt_eqNil {σ : L2.St} {H : Hp} {to : TE} {a : Addr} {xs : List V} (ho : Pu to σ H (.ref a)) (ha : H a = some (.lst xs)) : GvT (tTest (tOp (fun x y H Q => ∃ a b xs, x = .ref a ∧ y = .ref b ∧ H a = some (.lst xs) ∧ H b = some (.lst []) ∧ Q (.bl xs.isEmpty) H) to (tLst tNil))) σ H (fun b H' => b = xs.isEmpty ∧ Same H H') := fun Q q =>
  gv_eqNil ho ha _ fun v H' ⟨e, s⟩ => by
    subst e
    exact ⟨_, rfl, q _ _ ⟨rfl, s⟩⟩
theorem new_of {H H1 H2 : Hp} {ys : List V} {ds : List D} (s : Same H H1) (h : ∀ hd, H1 hd ≠ none → DsAt hd H2 ys ds) : ∀ hd, H hd ≠ none → DsAt hd H2 ys ds := fun hd n => h hd fun e => n (same_none s e)
theorem sc_l_fraction_by : FnScope ["_law_text_here", "_law_parts", "_law_top_here", "_law_bottom"] ["_law_text_here"] (defScope s_l_fraction_by) := ⟨rfl, rfl, rfl, by decide +kernel, rfl, by decide +kernel, by decide +kernel⟩
theorem ok_l_fraction_by (T : Txt K mg t w) : FnOk P w K mg base CX0 2 t.f_l_fraction_by t.d_l_fraction_by ["_law_text_here"] sp_l_fraction_by := by
  refine T.l_fraction_by.F.ok (k := 1) sc_l_fraction_by (fun vs H Q E h => ?_) (fun cdv A outer s H vs Q E hr h => ?_)
  · exact LdSp.len h
  · obtain ⟨s, rfl, tx, k⟩ := h
    refine ⟨_, (@pss_cons _ _ _ _ _ (@ps_set _ _ 1 _ _ _ _ sc_l_fraction_by.nd rfl (Or.inl rfl) (@pe_bm _ _ _ _ _ _ _ _ _ _ _ _ PySem.F.plainAttrs_str PySem.F.slot_str_split PySem.F.type_str_split mt_split (pv 0) (@pa_cons _ _ _ _ _ (@pe_str _ _ _ _) (@pa_nil _) star_con) (by rfl) (by rfl) (by rfl) (by rfl) (by rfl)) (by rfl) (by first | exact .inl rfl | exact .inr rfl | assumption)) (@pss_cons _ _ _ _ _ (@ps_set _ _ 2 _ _ _ _ sc_l_fraction_by.nd rfl (Or.inl rfl) (@pe_fn _ _ _ _ _ _ _ _ _ _ _ _ _ _ T.l_top (ok_l_top T) hr (by decide) (@pa_cons _ _ _ _ _ (@pe_ix _ _ _ _ _ _ _ ix_list (pv 1) (@pe_int _ _ _ _) (fun _ _ => rfl)) (@pa_nil _) star_sub) (by rfl) (by decide) (by rfl) (by rfl)) (by rfl) (by first | exact .inl rfl | exact .inr rfl | assumption)) (@pss_cons _ _ _ _ _ (@ps_if _ _ _ _ _ _ _ _ (@pt_cmpR _ _ _ _ _ _ _ _ op_eq (@pe_callB _ _ _ _ _ _ _ _ _ call_len_seq (by rfl) T.b_len PySem.boot_len (@pa_cons _ _ _ _ _ (pv 1) (@pa_nil _) star_name) (by decide) (by decide) (by rfl) (by rfl)) (@pe_int _ _ _ _) (nomark _)) (@pss_one _ _ _ (@ps_ret _ _ _ _ (@pe_lcomp _ _ _ _ _ [] _ ["_law_n"] _ (fun _ => [none]) _ _ rfl (@pi_list _ _ _ _ (pv 2)) (fun _ _ _ _ => pg_name (i := 0) (List.nodup_cons.mpr ⟨fun h => (nomatch h), List.nodup_nil⟩) rfl (Or.inl rfl) (.inr rfl)) (fun _ _ _ _ => (@pe_tup _ _ _ _ _ (@pa_cons _ _ _ _ _ (pv 0) (@pa_cons _ _ _ _ _ (@pe_int _ _ _ _) (@pa_nil _) star_con) star_name))) (closureFor_none (by decide +kernel)) rfl (by decide +kernel) (by decide +kernel) (fun _ _ h => by cases h) (noCells (by rfl)) (fun _ _ => rfl) (fun _ i _ _ _ h => by cases i with | zero => cases h | succ i => simp at h) (by intro _; rfl)))) (@pss_nil _)) (@pss_cons _ _ _ _ _ (@ps_set _ _ 3 _ _ _ _ sc_l_fraction_by.nd rfl (Or.inl rfl) (@pe_fn _ _ _ _ _ _ _ _ _ _ _ _ _ _ T.l_top (ok_l_top T) hr (by decide) (@pa_cons _ _ _ _ _ (@pe_ix _ _ _ _ _ _ _ ix_list (pv 1) (@pe_int _ _ _ _) (fun _ _ => rfl)) (@pa_nil _) star_sub) (by rfl) (by decide) (by rfl) (by rfl)) (by rfl) (by first | exact .inl rfl | exact .inr rfl | assumption)) (@pss_cons _ _ _ _ _ (@ps_if _ _ _ _ _ _ _ _ (PW.pt (@pw_or _ _ _ _ _ _ _ (@pt_cmpR _ _ _ _ _ _ _ _ op_gt (@pe_callB _ _ _ _ _ _ _ _ _ call_len_seq (by rfl) T.b_len PySem.boot_len (@pa_cons _ _ _ _ _ (pv 1) (@pa_nil _) star_name) (by decide) (by decide) (by rfl) (by rfl)) (@pe_int _ _ _ _) (nomark _)) (@pw_or _ _ _ _ _ _ _ (@pt_cmpR _ _ _ _ _ _ _ _ (op_eqNil hr.units) (pv 2) (@pe_lst _ _ _ _ (@pa_nil _)) (nomark _)) (@pw_or _ _ _ _ _ _ _ (@pt_cmpR _ _ _ _ _ _ _ _ (op_eqNil hr.units) (pv 3) (@pe_lst _ _ _ _ (@pa_nil _)) (nomark _)) (@pw_or1 _ _ _ _ (@pt_cmpR _ _ _ _ _ _ _ _ op_lt (@pe_ix _ _ _ _ _ _ _ ix_list (pv 3) (@pe_int _ _ _ _) (fun _ _ => rfl)) (@pe_int _ _ _ _) (nomark _))))))) (@pss_one _ _ _ (@ps_ret _ _ _ _ (@pe_lst _ _ _ _ (@pa_nil _)))) (@pss_nil _)) (@pss_cons _ _ _ _ _ (@ps_if _ _ _ _ _ _ _ _ (@pt_cmpR _ _ _ _ _ _ _ _ op_ne (@pe_fn _ _ _ _ _ _ _ _ _ _ _ _ _ _ T.l_divisor (ok_l_divisor T) hr (by decide) (@pa_cons _ _ _ _ _ (@pe_ix _ _ _ _ _ _ _ ix_list (pv 3) (@pe_int _ _ _ _) (fun _ _ => rfl)) (@pa_cons _ _ _ _ _ (@pe_ix _ _ _ _ _ _ _ ix_list (pv 2) (@pe_int _ _ _ _) (fun _ _ => rfl)) (@pa_nil _) star_sub) star_sub) (by rfl) (by decide) (by rfl) (by rfl)) (@pe_int _ _ _ _) (nomark _)) (@pss_one _ _ _ (@ps_ret _ _ _ _ (@pe_lst _ _ _ _ (@pa_nil _)))) (@pss_nil _)) (@pss_one _ _ _ (@ps_ret _ _ _ _ (@pe_lst _ _ _ _ (@pa_cons _ _ _ _ _ (@pe_tup _ _ _ _ _ (@pa_cons _ _ _ _ _ (@pe_ix _ _ _ _ _ _ _ ix_list (pv 2) (@pe_int _ _ _ _) (fun _ _ => rfl)) (@pa_cons _ _ _ _ _ (@pe_ix _ _ _ _ _ _ _ ix_list (pv 3) (@pe_int _ _ _ _) (fun _ _ => rfl)) (@pa_nil _) star_sub) star_sub)) (@pa_nil _) star_tup)))))))))), ?_⟩
    dsimp only at k
    refine st_setG (gv_spl (pu_v rfl) pu_c tx (one_len _ (by simp))) ?_
    rintro _ _ ⟨p, hp, rfl, rfl⟩
    have s0 : Same H (upd H p (.lst ((Txt.split s (Str.ofString "/")).map V.str))) := Same.upd hp
    have hpl : (upd H p (.lst ((Txt.split s (Str.ofString "/")).map V.str))) p = some (.lst ((Txt.split s (Str.ofString "/")).map V.str)) := upd_same
    have tok : ∀ q ∈ Txt.split s (Str.ofString "/"), TxOk q := fun q hq => split_ok tx hq
    have ne := split_ne (x := s) (y := Str.ofString "/") (one_len _ (by simp))
    have rp : rF s = match Txt.split s (Str.ofString "/") with
      | [a] => (rW a).map fun n => (n, 1)
      | [a, b] => match rW a, rW b with
        | some x, some y => if 2 ≤ y ∧ Int.gcd x y = 1 then some (x, y) else none
        | _, _ => none
      | _ => none := rfl
    have lc := split_count (x := s) (y := Str.ofString "/") (one_len _ (by simp))
    have l4 := tx.2
    revert s0 hpl tok rp ne lc
    generalize upd H p (.lst ((Txt.split s (Str.ofString "/")).map V.str)) = H1
    generalize Txt.split s (Str.ofString "/") = ps
    intro s0 hpl tok ne rp lc
    have no : rF s = none → ∀ {D : Ends} {σ : L2.St} {H' : Hp}, D.rt = Q → Same H H' → tRet (tLst tNil) D σ H' := fun e D σ H' ed s' => by
      refine st_retG gv_nil fun v H'' ⟨q, hq, e1, e2⟩ => ?_
      subst e1 e2
      rw [ed]
      exact k q [] _ ⟨same_none s' hq, s'.trans (Same.upd hq), upd_same⟩ (by rw [e]; rfl) fun hd _ => by rw [e]; exact .nil
    match ps, ne with
    | a :: r, _ =>
    refine st_setG (gv_ltop (pa_c (pu_ixL (pu_v rfl) pu_c (SqL.of hpl) at0) pa_n) (tok a (by simp))) ?_
    rintro _ H2 ⟨q1, rfl, n1⟩
    have s2 := s0.trans n1.2.1
    match r with
    | [] =>
      have ep : rF s = (rW a).map fun n => (n, 1) := rp
      refine st_ifN (b := true) (pt_t (pu_eqI (pu_lenL (pa_c (pu_v rfl) pa_n) (SqL.of (n1.2.1 _ _ hpl))) pu_c)) (fun _ => ?_) (fun e => by cases e)
      refine st_retG (gv_compRd (ds := (rW a).toList.map fun n => dF (n, 1)) (pu_v rfl) n1.2.2 (by rw [List.length_map]; cases rW a <;> simp) (fun _ => KeepS.none1) (by simp) ?_) ?_
      · intro i x d H' hx hd s'
        rw [List.getElem?_map] at hx hd
        cases hn : (rW a).toList[i]? with
        | none => rw [hn] at hx; cases hx
        | some n =>
          rw [hn] at hx hd
          have e1 : V.int n = x := Option.some.inj hx
          have e2 : dF (n, 1) = d := Option.some.inj hd
          subst e1 e2
          refine (gv_tup (pa_c (pu_v rfl) (pa_c pu_c pa_n)) len2).imp ?_
          rintro _ _ ⟨q, hq, rfl, rfl⟩
          exact ⟨Same.upd hq, fun hd _ => .tup upd_same (.cons (.int n) (.cons (.int 1) .nil))⟩
      · rintro _ H3 ⟨s3, D, ys, rfl, hD, hD3, hds⟩
        have ed : ((rF s).map dF).toList = (rW a).toList.map fun n => dF (n, 1) := by rw [ep]; cases rW a <;> rfl
        refine k D ys _ ⟨same_none s2 hD, s2.trans s3, hD3⟩ ?_ ?_
        · rw [ed]
          exact (hds p (some_ne (n1.2.1 _ _ hpl))).len
        · rw [ed]
          exact new_of s2 hds
    | b :: r =>
    refine st_ifN (b := false) (pt_t (pu_cast (pu_eqI (pu_lenL (pa_c (pu_v rfl) pa_n) (SqL.of (n1.2.1 _ _ hpl))) pu_c) (by rw [decide_eq_false]; simp <;> omega))) (fun e => by cases e) (fun _ => ?_)
    refine st_setG (gv_ltop (pa_c (pu_ixL (pu_v rfl) pu_c (SqL.of (n1.2.1 _ _ hpl)) at1) pa_n) (tok b (by simp))) ?_
    rintro _ H3 ⟨q2, rfl, n2⟩
    have s3 := s2.trans n2.2.1
    have hp3 := n2.2.1 _ _ (n1.2.1 _ _ hpl)
    have t3 := n2.2.1 _ _ n1.2.2
    have b3 := n2.2.2
    match r with
    | c :: r =>
      refine st_ifN (b := true) (pt_or (b := true) (c := true) (pu_cast2 (pt_t (pu_gt (pu_lenL (pa_c (pu_v rfl) pa_n) (SqL.of hp3)) pu_c)) (by rw [decide_eq_true]; simp <;> omega)) (fun e => by cases e)) (fun _ => ?_) (fun e => by cases e)
      exact no rp rfl s3
    | [] =>
    have L2' : ∀ {σ : L2.St}, σ[1]? = some (some (.ref p)) → GvT (tTest (tOp (rI0 fun i j => .bl (decide (i > j))) (tCB (fun xs H Q => ∃ p ys, xs = [.ref p] ∧ (SqL K H p ys ∨ SqT K H p ys) ∧ Q (.int ys.length) H) (tCons (tVar 1) tNil)) (tC (.int 2)))) σ H3 (fun b H' => b = false ∧ Same H3 H') := fun h1 => PuT.gt (pt_t (pu_gt (pu_lenL (pa_c (pu_v h1) pa_n) (SqL.of hp3)) pu_c)) ⟨rfl, Same.rfl'⟩
    have rp' : rF s = match rW a, rW b with
        | some x, some y => if 2 ≤ y ∧ Int.gcd x y = 1 then some (x, y) else none
        | _, _ => none := rp
    cases ha : rW a with
    | none =>
      rw [ha] at t3
      refine st_ifNG (R := fun b H' => b = true ∧ Same H3 H') (gt_or (L2' rfl) (fun H4 r4 => gt_or (gt_eqNil (pu_v rfl) (r4.2 _ _ t3)) (fun H5 r5 => by cases r5.1) (fun H5 r5 => ⟨rfl, r4.2.trans r5.2⟩)) (fun H4 r4 => by cases r4.1)) (fun H4 r4 => ?_) (fun H4 r4 => by cases r4.1)
      exact no (by rw [rp', ha]) rfl (s3.trans r4.2)
    | some x =>
    rw [ha] at t3
    cases hb : rW b with
    | none =>
      rw [hb] at b3
      refine st_ifNG (R := fun b H' => b = true ∧ Same H3 H') (gt_or (L2' rfl) (fun H4 r4 => gt_or (gt_eqNil (pu_v rfl) (r4.2 _ _ t3)) (fun H5 r5 => gt_or (gt_eqNil (pu_v rfl) (r5.2 _ _ (r4.2 _ _ b3))) (fun H6 r6 => by cases r6.1) (fun H6 r6 => ⟨rfl, r4.2.trans (r5.2.trans r6.2)⟩)) (fun H5 r5 => by cases r5.1)) (fun H4 r4 => by cases r4.1)) (fun H4 r4 => ?_) (fun H4 r4 => by cases r4.1)
      exact no (by rw [rp', ha, hb]) rfl (s3.trans r4.2)
    | some y =>
    rw [hb] at b3
    have rp2 : rF s = if 2 ≤ y ∧ Int.gcd x y = 1 then some (x, y) else none := by rw [rp', ha, hb]
    refine st_ifNG (R := fun b H' => b = decide (y < 2) ∧ Same H3 H') (gt_or (L2' rfl) (fun H4 r4 => gt_or (gt_eqNil (pu_v rfl) (r4.2 _ _ t3)) (fun H5 r5 => gt_or (gt_eqNil (pu_v rfl) (r5.2 _ _ (r4.2 _ _ b3))) (fun H6 r6 => PuT.gt (pt_t (pu_lt (pu_ixL (pu_v rfl) pu_c (SqL.of (r6.2 _ _ (r5.2 _ _ (r4.2 _ _ b3)))) at0) pu_c)) ⟨rfl, r4.2.trans (r5.2.trans r6.2)⟩) (fun H6 r6 => by cases r6.1)) (fun H5 r5 => by cases r5.1)) (fun H4 r4 => by cases r4.1)) (fun H4 r4 => ?_) (fun H4 r4 => ?_)
    · have := of_decide_eq_true r4.1.symm
      exact no (by rw [rp2, if_neg (by omega)]) rfl (s3.trans r4.2)
    have y2 := of_decide_eq_false r4.1.symm
    have t4 := r4.2 _ _ t3
    have b4 := r4.2 _ _ b3
    have DV : ∀ {σ : L2.St}, σ[2]? = some (some (.ref q1)) → σ[3]? = some (some (.ref q2)) → Pu (tCall sp_l_divisor [] E0 (tCons (tOp (rIxL K) (tVar 3) (tC (.int 0))) (tCons (tOp (rIxL K) (tVar 2) (tC (.int 0))) tNil))) σ H4 (.int (Int.gcd y x)) := fun h2 h3 => pu_call (pa_c (pu_ixL (pu_v h3) pu_c (SqL.of b4) at0) (pa_c (pu_ixL (pu_v h2) pu_c (SqL.of t4) at0) pa_n)) (fun Q q => ⟨y, x, rfl, q⟩)
    have s4 := s3.trans r4.2
    refine st_ifN (pt_t (pu_neI (DV rfl rfl) pu_c)) (fun e => ?_) (fun e => ?_)
    · refine no ?_ rfl s4
      rw [rp2, if_neg]
      rintro ⟨_, z⟩
      rw [Int.gcd_comm] at z
      rw [z] at e
      cases e
    · have g1 : Int.gcd x y = 1 := by
        rw [Int.gcd_comm]
        have : ((Int.gcd y x : Nat) : Int) = 1 := by simpa using e
        omega
      have ef : (rF s).map dF = some (dF (x, y)) := by rw [rp2, if_pos ⟨by omega, g1⟩]; rfl
      refine st_retG (R := fun v H' => Q v H') (gv_lstA (RA := fun vs H' => ∃ q, H4 q = none ∧ vs = [.ref q] ∧ H' = upd H4 q (.tup [.int x, .int y])) (fun Q2 q2 => gv_tup (pa_c (pu_ixL (pu_v rfl) pu_c (SqL.of t4) at0) (pa_c (pu_ixL (pu_v rfl) pu_c (SqL.of b4) at0) pa_n)) len2 _ ?_) ?_) fun _ _ z => z
      · rintro _ _ ⟨q, hq, rfl, rfl⟩
        exact q2 _ _ ⟨q, hq, rfl, rfl⟩
      · rintro _ _ ⟨q, hq, rfl, rfl⟩
        refine ⟨by show 1 ≤ sizeLine; decide, fun a' ha' => ?_⟩
        have sq : Same H4 (upd H4 q (.tup [.int x, .int y])) := Same.upd hq
        refine k a' [.ref q] _ ⟨same_none (s4.trans sq) ha', s4.trans (sq.trans (Same.upd ha')), upd_same⟩ (by rw [ef]; rfl) fun hd _ => ?_
        rw [ef]
        exact .cons (.tup (Same.upd ha' _ _ upd_same) (.cons (.int x) (.cons (.int y) .nil))) .nil
theorem ld_none {ys : List V} {o : Option D} (e : o = none) (h : ys.length = o.toList.length) : ys = [] := by
  subst e
  exact List.eq_nil_of_length_eq_zero h
theorem ld_some {ys : List V} {o : Option D} {d : D} (e : o = some d) (h : ys.length = o.toList.length) : ∃ v, ys = [v] := by
  subst e
  match ys, h with
  | [v], _ => exact ⟨v, rfl⟩
theorem ds_one {hd : Addr} {H : Hp} {v : V} {o : Option D} {d : D} (e : o = some d) (h : DsAt hd H [v] o.toList) : DAt hd H v d := by
  subst e
  cases h with
  | cons a t => exact a
def sp_l_point_read : Sp := LdSp fun s => (rP s).map dPt
theorem sc_l_point_read : FnScope ["_law_text_here", "_law_parts", "_law_x", "_law_y"] ["_law_text_here"] (defScope s_l_point_read) := ⟨rfl, rfl, rfl, by decide +kernel, rfl, by decide +kernel, by decide +kernel⟩
theorem ok_l_point_read (T : Txt K mg t w) : FnOk P w K mg base CX0 4 t.f_l_point_read t.d_l_point_read ["_law_text_here"] sp_l_point_read := by
  refine T.l_point_read.F.ok (k := 3) sc_l_point_read (fun vs H Q E h => ?_) (fun cdv A outer s H vs Q E hr h => ?_)
  · exact LdSp.len h
  · obtain ⟨s, rfl, tx, k⟩ := h
    refine ⟨_, (@pss_cons _ _ _ _ _ (@ps_set _ _ 1 _ _ _ _ sc_l_point_read.nd rfl (Or.inl rfl) (@pe_bm _ _ _ _ _ _ _ _ _ _ _ _ PySem.F.plainAttrs_str PySem.F.slot_str_split PySem.F.type_str_split mt_split (pv 0) (@pa_cons _ _ _ _ _ (@pe_str _ _ _ _) (@pa_nil _) star_con) (by rfl) (by rfl) (by rfl) (by rfl) (by rfl)) (by rfl) (by first | exact .inl rfl | exact .inr rfl | assumption)) (@pss_cons _ _ _ _ _ (@ps_if _ _ _ _ _ _ _ _ (@pt_cmpR _ _ _ _ _ _ _ _ op_ne (@pe_callB _ _ _ _ _ _ _ _ _ call_len_seq (by rfl) T.b_len PySem.boot_len (@pa_cons _ _ _ _ _ (pv 1) (@pa_nil _) star_name) (by decide) (by decide) (by rfl) (by rfl)) (@pe_int _ _ _ _) (nomark _)) (@pss_one _ _ _ (@ps_ret _ _ _ _ (@pe_lst _ _ _ _ (@pa_nil _)))) (@pss_nil _)) (@pss_cons _ _ _ _ _ (@ps_set _ _ 2 _ _ _ _ sc_l_point_read.nd rfl (Or.inl rfl) (@pe_fn _ _ _ _ _ _ _ _ _ _ _ _ _ _ T.l_fraction_by (ok_l_fraction_by T) hr (by decide) (@pa_cons _ _ _ _ _ (@pe_ix _ _ _ _ _ _ _ ix_list (pv 1) (@pe_int _ _ _ _) (fun _ _ => rfl)) (@pa_nil _) star_sub) (by rfl) (by decide) (by rfl) (by rfl)) (by rfl) (by first | exact .inl rfl | exact .inr rfl | assumption)) (@pss_cons _ _ _ _ _ (@ps_set _ _ 3 _ _ _ _ sc_l_point_read.nd rfl (Or.inl rfl) (@pe_fn _ _ _ _ _ _ _ _ _ _ _ _ _ _ T.l_fraction_by (ok_l_fraction_by T) hr (by decide) (@pa_cons _ _ _ _ _ (@pe_ix _ _ _ _ _ _ _ ix_list (pv 1) (@pe_int _ _ _ _) (fun _ _ => rfl)) (@pa_nil _) star_sub) (by rfl) (by decide) (by rfl) (by rfl)) (by rfl) (by first | exact .inl rfl | exact .inr rfl | assumption)) (@pss_cons _ _ _ _ _ (@ps_if _ _ _ _ _ _ _ _ (PW.pt (@pw_or _ _ _ _ _ _ _ (@pt_cmpR _ _ _ _ _ _ _ _ (op_eqNil hr.units) (pv 2) (@pe_lst _ _ _ _ (@pa_nil _)) (nomark _)) (@pw_or1 _ _ _ _ (@pt_cmpR _ _ _ _ _ _ _ _ (op_eqNil hr.units) (pv 3) (@pe_lst _ _ _ _ (@pa_nil _)) (nomark _))))) (@pss_one _ _ _ (@ps_ret _ _ _ _ (@pe_lst _ _ _ _ (@pa_nil _)))) (@pss_nil _)) (@pss_one _ _ _ (@ps_ret _ _ _ _ (@pe_lst _ _ _ _ (@pa_cons _ _ _ _ _ (@pe_fn _ _ _ _ _ _ _ _ _ _ _ _ _ _ T.l_point_by (ok_l_point_by T) hr (by decide) (@pa_cons _ _ _ _ _ (@pe_ix _ _ _ _ _ _ _ ix_list (pv 2) (@pe_int _ _ _ _) (fun _ _ => rfl)) (@pa_cons _ _ _ _ _ (@pe_ix _ _ _ _ _ _ _ ix_list (pv 3) (@pe_int _ _ _ _) (fun _ _ => rfl)) (@pa_nil _) star_sub) star_sub) (by rfl) (by decide) (by rfl) (by rfl)) (@pa_nil _) star_call))))))))), ?_⟩
    dsimp only at k
    refine st_setG (gv_spl (pu_v rfl) pu_c tx (one_len _ (by simp))) ?_
    rintro _ _ ⟨p, hp, rfl, rfl⟩
    have s0 : Same H (upd H p (.lst ((Txt.split s (Str.ofString ",")).map V.str))) := Same.upd hp
    have hpl : (upd H p (.lst ((Txt.split s (Str.ofString ",")).map V.str))) p = some (.lst ((Txt.split s (Str.ofString ",")).map V.str)) := upd_same
    have tok : ∀ q ∈ Txt.split s (Str.ofString ","), TxOk q := fun q hq => split_ok tx hq
    have rp : rP s = match Txt.split s (Str.ofString ",") with
      | [a, b] => match rF a, rF b with
        | some x, some y => some (ptF x y)
        | _, _ => none
      | _ => none := rfl
    revert s0 hpl tok rp
    generalize upd H p (.lst ((Txt.split s (Str.ofString ",")).map V.str)) = H1
    generalize Txt.split s (Str.ofString ",") = ps
    intro s0 hpl tok rp
    have no : rP s = none → ∀ {D : Ends} {σ : L2.St} {H' : Hp}, D.rt = Q → Same H H' → tRet (tLst tNil) D σ H' := fun e D σ H' ed s' => by
      refine st_retG gv_nil fun v H'' ⟨q, hq, e1, e2⟩ => ?_
      subst e1 e2
      rw [ed]
      exact k q [] _ ⟨same_none s' hq, s'.trans (Same.upd hq), upd_same⟩ (by rw [e]; rfl) fun hd _ => by rw [e]; exact .nil
    by_cases h2 : ps.length = 2
    case neg =>
      refine st_ifN (b := true) (pt_t (pu_cast (pu_neI (pu_lenL (pa_c (pu_v rfl) pa_n) (SqL.of hpl)) pu_c) (by rw [List.length_map]; simp; omega))) (fun _ => ?_) (fun e => by cases e)
      refine no ?_ rfl s0
      rw [rp]
      match ps, h2 with
      | [], _ => rfl
      | [_], _ => rfl
      | [_, _], h => exact absurd rfl h
      | _ :: _ :: _ :: _, _ => rfl
    match ps, h2 with
    | [a, b], _ =>
    have rp' : rP s = match rF a, rF b with
        | some x, some y => some (ptF x y)
        | _, _ => none := rp
    refine st_ifN (b := false) (pt_t (pu_neI (pu_lenL (pa_c (pu_v rfl) pa_n) (SqL.of hpl)) pu_c)) (fun e => by cases e) (fun _ => ?_)
    refine st_setG (gv_ld (pa_c (pu_ixL (pu_v rfl) pu_c (SqL.of hpl) at0) pa_n) (tok a (by simp))) ?_
    rintro _ H2 ⟨q1, xs, rfl, n1, l1, d1⟩
    have hp2 := n1.2.1 _ _ hpl
    refine st_setG (gv_ld (pa_c (pu_ixL (pu_v rfl) pu_c (SqL.of hp2) at1) pa_n) (tok b (by simp))) ?_
    rintro _ H3 ⟨q2, ys, rfl, n2, l2, d2⟩
    have s3 := s0.trans (n1.2.1.trans n2.2.1)
    have x3 := n2.2.1 _ _ n1.2.2
    have y3 := n2.2.2
    cases ha : rF a with
    | none =>
      have e1 := ld_none (by rw [ha]; rfl) l1
      subst e1
      refine st_ifNG (R := fun b H' => b = true ∧ Same H3 H') (gt_or (gt_eqNil (pu_v rfl) x3) (fun H5 r5 => by cases r5.1) (fun H5 r5 => ⟨rfl, r5.2⟩)) (fun H4 r4 => ?_) (fun H4 r4 => by cases r4.1)
      exact no (by rw [rp', ha]) rfl (s3.trans r4.2)
    | some x =>
    obtain ⟨v, rfl⟩ := ld_some (d := dF x) (by rw [ha]; rfl) l1
    have dv := dF_tup (ds_one (d := dF x) (by rw [ha]; rfl) (d1 p (some_ne hpl)))
    cases hb : rF b with
    | none =>
      have e1 := ld_none (by rw [hb]; rfl) l2
      subst e1
      refine st_ifNG (R := fun b H' => b = true ∧ Same H3 H') (gt_or (gt_eqNil (pu_v rfl) x3) (fun H5 r5 => (gt_eqNil (pu_v rfl) (r5.2 _ _ y3)).imp fun b H6 r6 => ⟨r6.1, r5.2.trans r6.2⟩) (fun H5 r5 => by cases r5.1)) (fun H4 r4 => ?_) (fun H4 r4 => by cases r4.1)
      exact no (by rw [rp', ha, hb]) rfl (s3.trans r4.2)
    | some y =>
    obtain ⟨w, rfl⟩ := ld_some (d := dF y) (by rw [hb]; rfl) l2
    have dw := dF_tup (ds_one (d := dF y) (by rw [hb]; rfl) (d2 p (some_ne hp2)))
    have ep : (rP s).map dPt = some (dPt (ptF x y)) := by rw [rp', ha, hb]; rfl
    refine st_ifNG (R := fun b H' => b = false ∧ Same H3 H') (gt_or (gt_eqNil (pu_v rfl) x3) (fun H5 r5 => (gt_eqNil (pu_v rfl) (r5.2 _ _ y3)).imp fun b H6 r6 => ⟨r6.1, r5.2.trans r6.2⟩) (fun H5 r5 => by cases r5.1)) (fun H4 r4 => by cases r4.1) (fun H4 r4 => ?_)
    have s4 := s3.trans r4.2
    refine st_retG (R := fun v H' => Q v H') (gv_lstA (RA := fun vs H' => ∃ r, vs = [r] ∧ Same H4 H' ∧ AtP H' r (ptF x y)) (fun Q2 q2 => gv_pby (pa_c (pu_ixL (pu_v rfl) pu_c (SqL.of (r4.2 _ _ x3)) at0) (pa_c (pu_ixL (pu_v rfl) pu_c (SqL.of (r4.2 _ _ y3)) at0) pa_n)) ((dv.same n2.2.1).same r4.2) (dw.same r4.2) (rF_good ha).1 (rF_good hb).1 _ ?_) ?_) fun _ _ z => z
    · rintro r H5 ⟨s5, a5⟩
      exact q2 _ _ ⟨r, rfl, s5, a5⟩
    · rintro _ H5 ⟨r, rfl, s5, a5⟩
      refine ⟨by show 1 ≤ sizeLine; decide, fun a' ha' => ?_⟩
      have s6 := s4.trans s5
      refine k a' [r] _ ⟨same_none s6 ha', s6.trans (Same.upd ha'), upd_same⟩ (by rw [ep]; rfl) fun hd n => ?_
      rw [ep]
      exact .cons ((TupT.new (H := H) a5 hd n).same (Same.upd ha')) .nil
theorem st_listG {K : PySem.W.Frag} {σ : L2.St} {H : Hp} {D : Ends} {rest tb : TS} {g : TG} {te : TE} {RL : V → Hp → Prop} (h : Gv te σ H RL) (k : ∀ v H1, RL v H1 → tSeq (tFor (iList K (tC v)) g tb) rest D σ H1) : tSeq (tFor (iList K te) g tb) rest D σ H := h _ fun v H1 r => k v H1 r
theorem allM_snoc {α : Type} {f : Str → Option α} : ∀ {l : List Str} {xs : List α} {a : Str} {x : α}, allM f l = some xs → f a = some x → allM f (l ++ [a]) = some (xs ++ [x])
  | [], xs, a, x, h, e => by
    cases h
    simp [allM, e]
  | s :: r, xs, a, x, h, e => by
    unfold allM at h
    cases h1 : f s with
    | none => rw [h1] at h; cases h
    | some x0 =>
      cases h2 : allM f r with
      | none => rw [h1, h2] at h; cases h
      | some ys =>
        rw [h1, h2] at h
        cases h
        rw [List.cons_append]
        unfold allM
        rw [h1, allM_snoc h2 e]
        rfl
theorem allM_no {α : Type} {f : Str → Option α} {ss : List Str} {i : Nat} {s : Str} (hs : ss[i]? = some s) (e : f s = none) : allM f ss = none := by
  cases h : allM f ss with
  | none => rfl
  | some xs =>
    obtain ⟨x, _, e'⟩ := (allM_some h).2 i s hs
    rw [e] at e'
    cases e'
theorem allM_next {α : Type} {f : Str → Option α} {ss : List Str} {i : Nat} {s : Str} {xs : List α} {x : α} (hs : ss[i]? = some s) (h : allM f (ss.take i) = some xs) (e : f s = some x) : allM f (ss.take (i + 1)) = some (xs ++ [x]) := by
  rw [List.take_succ, hs]
  exact allM_snoc h e
def sp_l_rings_read : Sp := LdSp fun s => (rRs s).map dRgs
theorem sc_l_rings_read : FnScope ["_law_text_here", "_law_rings", "_law_part", "_law_ring", "_law_word_here", "_law_p"] ["_law_text_here"] (defScope s_l_rings_read) := ⟨rfl, rfl, rfl, by decide +kernel, rfl, by decide +kernel, by decide +kernel⟩
theorem ok_l_rings_read (T : Txt K mg t w) : FnOk P w K mg base CX0 5 t.f_l_rings_read t.d_l_rings_read ["_law_text_here"] sp_l_rings_read := by
  refine T.l_rings_read.F.ok (k := 4) sc_l_rings_read (fun vs H Q E h => ?_) (fun cdv A outer s H vs Q E hr h => ?_)
  · exact LdSp.len h
  · obtain ⟨s, rfl, tx, k⟩ := h
    refine ⟨_, (@pss_cons _ _ _ _ _ (@ps_set _ _ 1 _ _ _ _ sc_l_rings_read.nd rfl (Or.inl rfl) (@pe_lst _ _ _ _ (@pa_nil _)) (by rfl) (by first | exact .inl rfl | exact .inr rfl | assumption)) (@pss_cons _ _ _ _ _ (@ps_for _ _ _ _ _ _ _ _ PassesOwn.never rfl (@pi_list _ _ _ _ (@pe_bm _ _ _ _ _ _ _ _ _ _ _ _ PySem.F.plainAttrs_str PySem.F.slot_str_split PySem.F.type_str_split mt_split (pv 0) (@pa_cons _ _ _ _ _ (@pe_str _ _ _ _) (@pa_nil _) star_con) (by rfl) (by rfl) (by rfl) (by rfl) (by rfl))) (@pg_name _ _ 2 _ sc_l_rings_read.nd rfl (Or.inl rfl) (by first | exact .inl rfl | exact .inr rfl | assumption)) (@pss_cons _ _ _ _ _ (@ps_set _ _ 3 _ _ _ _ sc_l_rings_read.nd rfl (Or.inl rfl) (@pe_lst _ _ _ _ (@pa_nil _)) (by rfl) (by first | exact .inl rfl | exact .inr rfl | assumption)) (@pss_cons _ _ _ _ _ (@ps_for _ _ _ _ _ _ _ _ PassesOwn.never rfl (@pi_list _ _ _ _ (@pe_bm _ _ _ _ _ _ _ _ _ _ _ _ PySem.F.plainAttrs_str PySem.F.slot_str_split PySem.F.type_str_split mt_split (pv 2) (@pa_cons _ _ _ _ _ (@pe_str _ _ _ _) (@pa_nil _) star_con) (by rfl) (by rfl) (by rfl) (by rfl) (by rfl))) (@pg_name _ _ 4 _ sc_l_rings_read.nd rfl (Or.inl rfl) (by first | exact .inl rfl | exact .inr rfl | assumption)) (@pss_cons _ _ _ _ _ (@ps_set _ _ 5 _ _ _ _ sc_l_rings_read.nd rfl (Or.inl rfl) (@pe_fn _ _ _ _ _ _ _ _ _ _ _ _ _ _ T.l_point_read (ok_l_point_read T) hr (by decide) (@pa_cons _ _ _ _ _ (pv 4) (@pa_nil _) star_name) (by rfl) (by decide) (by rfl) (by rfl)) (by rfl) (by first | exact .inl rfl | exact .inr rfl | assumption)) (@pss_cons _ _ _ _ _ (@ps_if _ _ _ _ _ _ _ _ (@pt_cmpR _ _ _ _ _ _ _ _ (op_eqNil hr.units) (pv 5) (@pe_lst _ _ _ _ (@pa_nil _)) (nomark _)) (@pss_one _ _ _ (@ps_ret _ _ _ _ (@pe_lst _ _ _ _ (@pa_nil _)))) (@pss_nil _)) (@pss_one _ _ _ (@ps_set _ _ 3 _ _ _ _ sc_l_rings_read.nd rfl (Or.inl rfl) (@pe_op _ _ _ _ _ _ _ _ op_cat (pv 3) (pv 5)) (by rfl) (by first | exact .inl rfl | exact .inr rfl | assumption))))) (by intro _; rfl)) (@pss_one _ _ _ (@ps_expr _ _ _ _ (@pe_bm _ _ _ _ _ _ _ _ _ _ _ _ PySem.F.plainAttrs_list PySem.F.slot_list_append PySem.F.type_list_append mt_append (pv 1) (@pa_cons _ _ _ _ _ (pv 3) (@pa_nil _) star_name) (by rfl) (by rfl) (by rfl) (by rfl) (by rfl)) (by rfl))))) (by intro _; rfl)) (@pss_one _ _ _ (@ps_ret _ _ _ _ (@pe_lst _ _ _ _ (@pa_cons _ _ _ _ _ (pv 1) (@pa_nil _) star_name)))))), ?_⟩
    dsimp only at k
    have big : 1000000 ≤ sizeLine := by decide
    have no : rRs s = none → ∀ {D : Ends} {σ : L2.St} {H' : Hp}, D.rt = Q → Same H H' → tRet (tLst tNil) D σ H' := fun e D σ H' ed s' => by
      refine st_retG gv_nil fun v H'' ⟨q, hq, e1, e2⟩ => ?_
      subst e1 e2
      rw [ed]
      exact k q [] _ ⟨same_none s' hq, s'.trans (Same.upd hq), upd_same⟩ (by rw [e]; rfl) fun hd _ => by rw [e]; exact .nil
    refine st_setG gv_nil ?_
    rintro _ _ ⟨pr, hpr, rfl, rfl⟩
    refine st_listG (gv_spl (pu_v rfl) pu_c tx (by decide +kernel)) ?_
    rintro _ _ ⟨pp, hpp, rfl, rfl⟩
    have npp : pr ≠ pp := ne_of_none upd_same hpp
    have s2 : Same H (upd (upd H pr (.lst [])) pp (.lst ((Txt.split s (Str.ofString " | ")).map V.str))) := (Same.upd hpr).trans (Same.upd hpp)
    have hpp2 : (upd (upd H pr (.lst [])) pp (.lst ((Txt.split s (Str.ofString " | ")).map V.str))) pp = some (.lst ((Txt.split s (Str.ofString " | ")).map V.str)) := upd_same
    have hpr2 : (upd (upd H pr (.lst [])) pp (.lst ((Txt.split s (Str.ofString " | ")).map V.str))) pr = some (.lst []) := by rw [upd_ne npp, upd_same]
    have tok : ∀ q ∈ Txt.split s (Str.ofString " | "), TxOk q := fun q hq => split_ok tx hq
    have rp : rRs s = allM rR (Txt.split s (Str.ofString " | ")) := rfl
    have lc := split_count (x := s) (y := Str.ofString " | ") (by decide +kernel)
    have l4 := tx.2
    revert s2 hpp2 hpr2 tok rp lc
    generalize upd (upd H pr (.lst [])) pp (.lst ((Txt.split s (Str.ofString " | ")).map V.str)) = H2
    generalize Txt.split s (Str.ofString " | ") = parts
    intro s2 hpp2 hpr2 tok rp lc
    refine st_list (K := K) (xs := parts.map V.str) pu_c (fun i σ H' => Same H H' ∧ H' pp = some (.lst (parts.map V.str)) ∧ (∃ rs ys, allM rR (parts.take i) = some rs ∧ H' pr = some (.lst ys) ∧ ys.length = i ∧ ∀ hd, (H hd ≠ none ∨ hd = pr) → DsAt hd H' ys (rs.map dRg)) ∧ ∃ z1 z2 z3 z4, σ = [some (.str s), some (.ref pr), z1, z2, z3, z4]) ⟨s2, hpp2, ⟨[], [], rfl, hpr2, rfl, fun _ _ => .nil⟩, _, _, _, _, rfl⟩ (fun i σ H' _ z => SqL.of z.2.1) ?_ ?_
    · rintro i x σ H3 hx ⟨s3, hpp3, ⟨rs, ys, ea, hpr3, hyl, hds⟩, z1, z2, z3, z4, rfl⟩
      rw [List.getElem?_map] at hx
      cases hq : parts[i]? with
      | none => rw [hq] at hx; cases hx
      | some part =>
      rw [hq] at hx
      have e1 : V.str part = x := Option.some.inj hx
      subst e1
      have tp := tok part (List.mem_of_getElem? hq)
      have hil : i < parts.length := (List.getElem?_eq_some_iff.mp hq).1
      refine st_setG gv_nil ?_
      rintro _ _ ⟨pa, hpa, rfl, rfl⟩
      refine st_listG (gv_spl (pu_v rfl) pu_c tp (one_len _ (by simp))) ?_
      rintro _ _ ⟨pw, hpw, rfl, rfl⟩
      have npw : pa ≠ pw := ne_of_none upd_same hpw
      have s5 : Same H3 (upd (upd H3 pa (.lst [])) pw (.lst ((Txt.split part (Str.ofString " ")).map V.str))) := (Same.upd hpa).trans (Same.upd hpw)
      have hpw5 : (upd (upd H3 pa (.lst [])) pw (.lst ((Txt.split part (Str.ofString " ")).map V.str))) pw = some (.lst ((Txt.split part (Str.ofString " ")).map V.str)) := upd_same
      have hpa5 : (upd (upd H3 pa (.lst [])) pw (.lst ((Txt.split part (Str.ofString " ")).map V.str))) pa = some (.lst []) := by rw [upd_ne npw, upd_same]
      have tok' : ∀ q ∈ Txt.split part (Str.ofString " "), TxOk q := fun q hq => split_ok tp hq
      have rp' : rR part = allM rP (Txt.split part (Str.ofString " ")) := rfl
      have lc' := split_count (x := part) (y := Str.ofString " ") (one_len _ (by simp))
      have l4' := tp.2
      revert s5 hpw5 hpa5 tok' rp' lc'
      generalize upd (upd H3 pa (.lst [])) pw (.lst ((Txt.split part (Str.ofString " ")).map V.str)) = H5
      generalize Txt.split part (Str.ofString " ") = words
      intro s5 hpw5 hpa5 tok' rp' lc'
      refine st_list (K := K) (xs := words.map V.str) pu_c (fun j σ H' => Same H5 H' ∧ ∃ pts ra zs, allM rP (words.take j) = some pts ∧ H3 ra = none ∧ H' ra = some (.lst zs) ∧ zs.length = j ∧ (∀ hd, H3 hd ≠ none → DsAt hd H' zs (pts.map dPt)) ∧ ∃ z3 z4, σ = [some (.str s), some (.ref pr), some (.str part), some (.ref ra), z3, z4]) ⟨Same.rfl', [], pa, [], rfl, hpa, hpa5, rfl, (fun _ _ => .nil), _, _, rfl⟩ (fun j σ H' _ z => SqL.of (z.1 _ _ hpw5)) ?_ ?_
      · rintro j x σ H6 hx ⟨s6, pts, ra, zs, eb, nra, hra, hzl, hdz, y3, y4, rfl⟩
        rw [List.getElem?_map] at hx
        cases hw : words[j]? with
        | none => rw [hw] at hx; cases hx
        | some w =>
        rw [hw] at hx
        have e1 : V.str w = x := Option.some.inj hx
        subst e1
        have hjl : j < words.length := (List.getElem?_eq_some_iff.mp hw).1
        refine st_setG (gv_ld (pa_c (pu_v rfl) pa_n) (tok' w (List.mem_of_getElem? hw))) ?_
        rintro _ H7 ⟨q, vs, rfl, n7, l7, d7⟩
        cases hr' : rP w with
        | none =>
          have e1 := ld_none (by rw [hr']; rfl) l7
          subst e1
          refine st_ifNG (R := fun b H' => b = true ∧ Same H7 H') ((gt_eqNil (pu_v rfl) n7.2.2).imp fun b H' r => r) (fun H8 r8 => ?_) (fun H8 r8 => by cases r8.1)
          exact no (by rw [rp]; exact allM_no hq (by rw [rp']; exact allM_no hw hr')) rfl (s3.trans (s5.trans (s6.trans (n7.2.1.trans r8.2))))
        | some pt =>
        obtain ⟨v, rfl⟩ := ld_some (d := dPt pt) (by rw [hr']; rfl) l7
        refine st_ifNG (R := fun b H' => b = false ∧ Same H7 H') ((gt_eqNil (pu_v rfl) n7.2.2).imp fun b H' r => r) (fun H8 r8 => by cases r8.1) (fun H8 r8 => ?_)
        have h38 := s5.trans (s6.trans (n7.2.1.trans r8.2))
        refine st_setG1 (R := fun v' H' => ∃ p', H8 p' = none ∧ v' = .ref p' ∧ H' = upd H8 p' (.lst (zs ++ [v]))) (fun Q2 q2 => (pu_v rfl : Pu (tVar 3) _ _ (.ref ra)) _ ((pu_v rfl : Pu (tVar 5) _ _ (.ref q)) _ ⟨ra, q, zs, [v], rfl, rfl, r8.2 _ _ (n7.2.1 _ _ hra), r8.2 _ _ n7.2.2, by rw [hzl]; show j + 1 ≤ sizeLine; omega, fun p' hp' => q2 _ _ ⟨p', hp', rfl, rfl⟩⟩)) ?_
        rintro _ _ ⟨p', hp', rfl, rfl⟩
        refine ⟨s6.trans (n7.2.1.trans (r8.2.trans (Same.upd hp'))), pts ++ [pt], p', zs ++ [v], allM_next hw eb hr', same_none h38 hp', upd_same, by simp [hzl], fun hd nh => ?_, _, _, rfl⟩
        rw [List.map_append]
        have h6 : H6 hd ≠ none := fun z => nh (same_none (s5.trans s6) z)
        exact ((hdz hd nh).same (n7.2.1.trans (r8.2.trans (Same.upd hp')))).snoc' ((ds_one (d := dPt pt) (by rw [hr']; rfl) (d7 hd h6)).same (r8.2.trans (Same.upd hp')))
      · rintro σ H9 ⟨s9, pts, ra, zs, eb, nra, hra, hzl, hdz, y3, y4, rfl⟩
        rw [List.length_map, List.take_length] at eb
        have s39 := s5.trans s9
        have hpr9 := s39 _ _ hpr3
        refine st_app1 (R := fun v H' => v = .ref ra ∧ H9 = H') (pu_v rfl) hpr9 (Pu.gv' (pu_v rfl) ⟨rfl, rfl⟩) ?_
        rintro _ _ ⟨rfl, rfl⟩
        have up : SameB pr H9 (upd H9 pr (.lst (ys ++ [.ref ra]))) := SameB.upd
        refine ⟨ys, hpr9, by omega, same_updNew (s3.trans s39) hpr, ?_, ⟨rs ++ [pts], ys ++ [.ref ra], allM_next hq ea (by rw [rp']; exact eb), upd_same, by simp [hyl], fun hd hh => ?_⟩, _, _, _, _, rfl⟩
        · rw [upd_ne (Ne.symm npp)]
          exact s39 _ _ hpp3
        · have n3 : ∀ hd, (H hd ≠ none ∨ hd = pr) → H3 hd ≠ none := fun hd hh z => by
            rcases hh with h | h
            · exact h (same_none s3 z)
            · rw [h, hpr3] at z; cases z
          have ring : ∀ hd, H3 hd ≠ none → DAt hd H9 (.ref ra) (dRg pts) := fun hd n => .lst hra (fun e => n (by rw [← e]; exact nra)) (hdz hd n)
          rw [List.map_append]
          exact DsAt.snoc' (DsAt.butD hpr9 up ((hds hd hh).same s39) ((hds pr (.inr rfl)).same s39)) (DAt.butD hpr9 up (ring hd (n3 hd hh)) (ring pr (n3 pr (.inr rfl))))
    · rintro σ H9 ⟨s9, _, ⟨rs, ys, ea, hpr9, hyl, hds⟩, z1, z2, z3, z4, rfl⟩
      rw [List.length_map, List.take_length] at ea
      have ep : (rRs s).map dRgs = some (dRgs rs) := by rw [rp, ea]; rfl
      refine st_retG (gv_lst (pa_c (pu_v rfl) pa_n) (by show 1 ≤ sizeLine; decide)) ?_
      rintro _ _ ⟨q, hq, rfl, rfl⟩
      refine k q [.ref pr] _ ⟨same_none s9 hq, s9.trans (Same.upd hq), upd_same⟩ (by rw [ep]; rfl) fun hd n => ?_
      rw [ep]
      exact .cons (.lst (Same.upd hq _ _ hpr9) (fun e => n (by rw [← e]; exact hpr)) ((hds hd (.inl n)).same (Same.upd hq))) .nil
def sp_l_is_name : Sp := fun vs H Q _ => ∃ s, vs = [.str s] ∧ TxOk s ∧ Q (.bl (nameOk s)) H
theorem sc_l_is_name : FnScope ["_law_word_here", "_law_sign"] ["_law_word_here"] (defScope s_l_is_name) := ⟨rfl, rfl, rfl, by decide +kernel, rfl, by decide +kernel, by decide +kernel⟩
theorem ok_l_is_name (T : Txt K mg t w) : FnOk P w K mg base CX0 1 t.f_l_is_name t.d_l_is_name ["_law_word_here"] sp_l_is_name := by
  refine T.l_is_name.F.ok (k := 0) sc_l_is_name (fun vs H Q E h => ?_) (fun cdv A outer s H vs Q E hr h => ?_)
  · obtain ⟨s, rfl, _⟩ := h
    rfl
  · obtain ⟨s, rfl, tx, k⟩ := h
    refine ⟨_, (@pss_cons _ _ _ _ _ (@ps_for _ _ _ _ _ _ _ _ PassesOwn.never rfl (@pi_str _ _ _ _ (pv 0)) (@pg_name _ _ 1 _ sc_l_is_name.nd rfl (Or.inl rfl) (by first | exact .inl rfl | exact .inr rfl | assumption)) (@pss_one _ _ _ (@ps_if _ _ _ _ _ _ _ _ (@pt_cmpR _ _ _ _ _ _ _ _ op_notIn_str (pv 1) (@pe_str _ _ _ _) rfl) (@pss_one _ _ _ (@ps_ret _ _ _ _ (@pe_bl _ _ _ _))) (@pss_nil _))) (by intro _; rfl)) (@pss_one _ _ _ (@ps_ret _ _ _ _ (@pe_chain _ _ _ _ _ _ _ _ _ _ _ _ op_le op_le (@pe_int _ _ _ _) (@pe_callB _ _ _ _ _ _ _ _ _ call_len_str (by rfl) T.b_len PySem.boot_len (@pa_cons _ _ _ _ _ (pv 0) (@pa_nil _) star_name) (by decide) (by decide) (by rfl) (by rfl)) (@pe_int _ _ _ _) (by with_unfolding_all rfl))))), ?_⟩
    have big : 1000000 ≤ sizeLine := by decide
    have l4 := tx.2
    have nOk : ∀ {P : Prop}, P → (P → ¬ (nameOk s = true)) → nameOk s = false := fun p f => by
      cases h : nameOk s with
      | false => rfl
      | true => exact absurd h (f p)
    have ni : nameOk s = true ↔ 1 ≤ s.length ∧ s.length ≤ 8 ∧ ∀ c ∈ s.cps.toList, c ∈ letters.cps.toList := by
      unfold nameOk
      simp only [Bool.and_eq_true, List.all_eq_true, decide_eq_true_iff]
    refine st_strl (s := s) (pu_v rfl) tx.1 (fun i σ H' => H = H' ∧ (∀ c ∈ s.cps.toList.take i, c ∈ letters.cps.toList) ∧ ∃ z, σ = [some (.str s), z]) ⟨rfl, (fun c hc => by simp at hc), _, rfl⟩ ?_ ?_
    · rintro i c σ _ hc ⟨rfl, hi, z, rfl⟩
      refine st_ifN1 (pt_t (pu_notInS (pu_v rfl) pu_c)) (fun e => ?_) (fun e => ?_)
      · refine st_ret pu_c ?_
        have : nameOk s = false := nOk e fun p z => by
          rw [Bool.not_eq_true', decide_eq_false_iff_not] at p
          exact p ((ni.mp z).2.2 c (List.mem_of_getElem? hc))
        rw [this] at k
        exact k
      · refine ⟨rfl, fun d hd => ?_, _, rfl⟩
        rw [List.take_succ, hc] at hd
        rcases List.mem_append.mp hd with hd | hd
        · exact hi d hd
        · have : d = c := by simpa using hd
          subst this
          rw [Bool.not_eq_false', decide_eq_true_iff] at e
          exact e
    rintro σ _ ⟨rfl, hi, z, rfl⟩
    rw [← L2.len_list, List.take_length] at hi
    have en : nameOk s = (decide (1 ≤ (s.length : Int)) && decide ((s.length : Int) ≤ 8)) := by
      by_cases h : 1 ≤ s.length ∧ s.length ≤ 8
      · rw [ni.mpr ⟨h.1, h.2, hi⟩, decide_eq_true (by omega), decide_eq_true (by omega)]
        rfl
      · have : nameOk s = false := nOk h fun p z => p ⟨(ni.mp z).1, (ni.mp z).2.1⟩
        rw [this]
        symm
        rw [Bool.and_eq_false_iff, decide_eq_false_iff_not, decide_eq_false_iff_not]
        omega
    rw [en] at k
    refine st_ret (v := .bl (decide (1 ≤ (s.length : Int)) && decide ((s.length : Int) ≤ 8))) (fun Q q => (pu_c (v := .int 1)) _ (pu_lenS (pa_c (pu_v rfl) pa_n) (by omega) _ ⟨1, _, rfl, rfl, _, rfl, ?_⟩)) k
    by_cases h : (1 : Int) ≤ (s.length : Int)
    · rw [if_pos (decide_eq_true h)]
      rw [decide_eq_true h, Bool.true_and] at q
      exact pu_c (v := .int 8) _ ⟨_, 8, rfl, rfl, q⟩
    · rw [if_neg (by rw [decide_eq_false h]; decide)]
      rw [decide_eq_false h, Bool.false_and] at q
      exact q
def oAt (r : List Str) (i : Nat) : Str := (r[i]?).getD (Str.ofString "")
theorem one_is (r : List Str) : (r.map V.str ++ [V.str (Str.ofString ""), V.str (Str.ofString ""), V.str (Str.ofString "")]).take 3 = [V.str (oAt r 0), V.str (oAt r 1), V.str (oAt r 2)] := by
  match r with
  | [] => rfl
  | [a] => rfl
  | [a, b] => rfl
  | a :: b :: c :: r => rfl
theorem nm_nil : nameOk (Str.ofString "") = false := by decide +kernel
theorem rW_nil : rW (Str.ofString "") = none := by decide +kernel
theorem shp_in : shp (Str.ofString "in") = some [.name] := by decide +kernel
theorem shp_round : shp (Str.ofString "round") = some [.name, .number] := by decide +kernel
theorem shp_least : shp (Str.ofString "least") = some [.number] := by decide +kernel
theorem shp_no : shp (Str.ofString "no") = some [.wish] := by decide +kernel
theorem shp_both : shp (Str.ofString "both") = some [.wish, .wish] := by decide +kernel
theorem shp_any : shp (Str.ofString "any") = some [.wish, .wish] := by decide +kernel
theorem pW_cons {n : Nat} {w : Str} {r : List Str} {ks : List Kd} (h : shp w = some ks) : pW (n + 1) (w :: r) = match pParts (pW n) ks r with
    | none => none
    | some (ds, r') => some (.tup (.str w :: ds), r') := by
  simp only [pW, h] <;> rfl
theorem pW_in {n : Nat} {r : List Str} (h : oAt r 0 = Str.ofString "in") : pW (n + 1) r = if nameOk (oAt r 1) = true then some (.tup [.str (Str.ofString "in"), .str (oAt r 1)], r.drop 2) else none := by
  match r with
  | [] => exact absurd h (by decide +kernel)
  | [a] =>
    have e : a = Str.ofString "in" := h
    subst e
    rw [pW_cons shp_in]
    have : oAt [Str.ofString "in"] 1 = Str.ofString "" := rfl
    rw [this, nm_nil]
    rfl
  | a :: b :: r =>
    have e : a = Str.ofString "in" := h
    subst e
    rw [pW_cons shp_in]
    show _ = if nameOk b = true then some (D.tup [.str (Str.ofString "in"), .str b], r) else none
    by_cases hb : nameOk b = true
    · simp [pParts, pPart, hb]
    · simp [pParts, pPart, hb]
theorem pW_least {n : Nat} {r : List Str} (h : oAt r 0 = Str.ofString "least") : pW (n + 1) r = match rW (oAt r 1) with
    | none => none
    | some z => some (.tup [.str (Str.ofString "least"), .int z], r.drop 2) := by
  match r with
  | [] => exact absurd h (by decide +kernel)
  | [a] =>
    have e : a = Str.ofString "least" := h
    subst e
    rw [pW_cons shp_least]
    have : oAt [Str.ofString "least"] 1 = Str.ofString "" := rfl
    rw [this, rW_nil]
    rfl
  | a :: b :: r =>
    have e : a = Str.ofString "least" := h
    subst e
    rw [pW_cons shp_least]
    show _ = match rW b with
      | none => none
      | some z => some (D.tup [.str (Str.ofString "least"), .int z], r)
    cases hb : rW b <;> simp [pParts, pPart, hb]
theorem pW_round {n : Nat} {r : List Str} (h : oAt r 0 = Str.ofString "round") : pW (n + 1) r = if nameOk (oAt r 1) = true then (match rW (oAt r 2) with
    | none => none
    | some z => some (.tup [.str (Str.ofString "round"), .str (oAt r 1), .int z], r.drop 3)) else none := by
  match r with
  | [] => exact absurd h (by decide +kernel)
  | [a] =>
    have e : a = Str.ofString "round" := h
    subst e
    rw [pW_cons shp_round]
    have : oAt [Str.ofString "round"] 1 = Str.ofString "" := rfl
    rw [this, nm_nil]
    rfl
  | [a, b] =>
    have e : a = Str.ofString "round" := h
    subst e
    rw [pW_cons shp_round]
    have : oAt [Str.ofString "round", b] 2 = Str.ofString "" := rfl
    rw [this, rW_nil]
    show _ = if nameOk b = true then none else none
    by_cases hb : nameOk b = true
    · simp [pParts, pPart, hb]
    · simp [pParts, pPart, hb]
  | a :: b :: c :: r =>
    have e : a = Str.ofString "round" := h
    subst e
    rw [pW_cons shp_round]
    show _ = if nameOk b = true then (match rW c with
      | none => none
      | some z => some (D.tup [.str (Str.ofString "round"), .str b, .int z], r)) else none
    by_cases hb : nameOk b = true
    · cases hc : rW c <;> simp [pParts, pPart, hb, hc]
    · simp [pParts, pPart, hb]
theorem pW_no {n : Nat} {r : List Str} (h : oAt r 0 = Str.ofString "no") : pW (n + 1) r = match pW n (r.drop 1) with
    | none => none
    | some (d, r') => some (.tup [.str (Str.ofString "no"), d], r') := by
  match r with
  | [] => exact absurd h (by decide +kernel)
  | a :: r =>
    have e : a = Str.ofString "no" := h
    subst e
    rw [pW_cons shp_no]
    show _ = match pW n r with
      | none => none
      | some (d, r') => some (D.tup [.str (Str.ofString "no"), d], r')
    cases hb : pW n r <;> simp [pParts, pPart, hb]
theorem pW_two {n : Nat} {r : List Str} (h : oAt r 0 = Str.ofString "both" ∨ oAt r 0 = Str.ofString "any") : pW (n + 1) r = match pW n (r.drop 1) with
    | none => none
    | some (d, r') => match pW n r' with
      | none => none
      | some (d', r'') => some (.tup [.str (oAt r 0), d, d'], r'') := by
  match r with
  | [] => exact absurd h (by decide +kernel)
  | a :: r =>
    have h' : a = Str.ofString "both" ∨ a = Str.ofString "any" := h
    have es : shp a = some [.wish, .wish] := by
      rcases h' with rfl | rfl
      · exact shp_both
      · exact shp_any
    rw [pW_cons es]
    show _ = match pW n r with
      | none => none
      | some (d, r') => match pW n r' with
        | none => none
        | some (d', r'') => some (D.tup [.str a, d, d'], r'')
    cases hb : pW n r with
    | none => simp [pParts, pPart, hb]
    | some q =>
      obtain ⟨d, r'⟩ := q
      cases hc : pW n r' <;> simp [pParts, pPart, hb, hc]
theorem shp_else {w : Str} (h1 : w ≠ Str.ofString "in") (h2 : w ≠ Str.ofString "round") (h3 : w ≠ Str.ofString "least") (h4 : w ≠ Str.ofString "no") (h5 : w ≠ Str.ofString "both") (h6 : w ≠ Str.ofString "any") : shp w = none := by
  unfold shp
  have : shTab.find? (fun p => p.1 == w) = none := by
    rw [List.find?_eq_none]
    intro p hp e
    have e : p.1 = w := by simpa using e
    have : p.1 = Str.ofString "in" ∨ p.1 = Str.ofString "round" ∨ p.1 = Str.ofString "least" ∨ p.1 = Str.ofString "no" ∨ p.1 = Str.ofString "both" ∨ p.1 = Str.ofString "any" := by
      have ha : ∀ p ∈ shTab, p.1 = Str.ofString "in" ∨ p.1 = Str.ofString "round" ∨ p.1 = Str.ofString "least" ∨ p.1 = Str.ofString "no" ∨ p.1 = Str.ofString "both" ∨ p.1 = Str.ofString "any" := by decide +kernel
      exact ha p hp
    rw [e] at this
    rcases this with z | z | z | z | z | z
    · exact h1 z
    · exact h2 z
    · exact h3 z
    · exact h4 z
    · exact h5 z
    · exact h6 z
  rw [this]
  rfl
theorem pW_else {n : Nat} {r : List Str} (h1 : oAt r 0 ≠ Str.ofString "in") (h2 : oAt r 0 ≠ Str.ofString "round") (h3 : oAt r 0 ≠ Str.ofString "least") (h4 : oAt r 0 ≠ Str.ofString "no") (h5 : oAt r 0 ≠ Str.ofString "both") (h6 : oAt r 0 ≠ Str.ofString "any") : pW (n + 1) r = none := by
  match r with
  | [] => rfl
  | a :: r =>
    have e : shp a = none := shp_else h1 h2 h3 h4 h5 h6
    simp only [pW, e]
theorem gt_neNil {σ : L2.St} {H : Hp} {to : TE} {s : Str} (ho : Gv to σ H (fun v H' => ∃ p, v = .ref p ∧ NewL H H' p ((rW s).toList.map V.int))) : GvT (tTest (tOp (fun x y H Q => ∃ a b ns, x = .ref a ∧ y = .ref b ∧ H a = some (.lst (List.map V.int ns)) ∧ H b = some (.lst []) ∧ ns.length ≤ 1 ∧ Q (.bl (!ns.isEmpty)) H) to (tLst tNil))) σ H (fun b H' => b = (rW s).isSome ∧ Same H H') := fun Q q =>
  ho _ fun v H1 ⟨p, e, n⟩ => by
    subst e
    refine gv_nil _ fun v H2 ⟨p2, hp, e1, e2⟩ => ?_
    subst e1 e2
    refine ⟨p, p2, _, rfl, rfl, Same.upd hp _ _ n.2.2, upd_same, ?_, _, rfl, q _ _ ⟨?_, n.2.1.trans (Same.upd hp)⟩⟩
    · cases rW s <;> simp
    · cases rW s <;> rfl
theorem gv_ixTop {K : PySem.W.Frag} {σ : L2.St} {H : Hp} {to : TE} {s : Str} {z : Int} (hz : rW s = some z) (ho : Gv to σ H (fun v H' => ∃ p, v = .ref p ∧ NewL H H' p ((rW s).toList.map V.int))) : Gv (tOp (rIxL K) to (tC (.int 0))) σ H (fun v H' => v = .int z ∧ Same H H') := fun Q q =>
  ho _ fun v H1 ⟨p, e, n⟩ => by
    subst e
    rw [hz] at n
    exact pu_c (v := .int 0) _ ⟨p, _, 0, _, rfl, rfl, SqL.of n.2.2, at0, q _ _ ⟨rfl, n.2.1⟩⟩
theorem gv_lMidG {K : PySem.W.Frag} {σ : L2.St} {H : Hp} {to tk tj : TE} {R R' : V → Hp → Prop} (ho : Gv to σ H R) (hr : ∀ v H1, R v H1 → ∃ (a : Addr) (xs : List V) (k j : Int), v = .ref a ∧ Pu tk σ H1 (.int k) ∧ Pu tj σ H1 (.int j) ∧ H1 a = some (.lst xs) ∧ ∀ p, H1 p = none → R' (.ref p) (upd H1 p (.lst (cutV xs (some k) (some j))))) : Gv (tSl (rSlL K) to (tPart tk) (tPart tj)) σ H R' := fun Q q => ho _ fun v H1 r => by
  obtain ⟨a, xs, k, j, rfl, hk, hj, ha, g⟩ := hr v H1 r
  exact hk _ ⟨_, rfl, hj _ ⟨_, rfl, a, xs, rfl, SqL.of ha, fun p hp => q _ _ (g p hp)⟩⟩
theorem gt_t2 {σ : L2.St} {H : Hp} {te : TE} {R : Bool → Hp → Prop} (h : Gv te σ H (fun v H' => ∃ b, v = .bl b ∧ R b H')) : GvT (tTest te) σ H R := fun Q q => h _ fun v H' ⟨b, e, r⟩ => ⟨b, e, q _ _ r⟩
theorem gv_compRa {σ : L2.St} {H : Hp} {te tl : TE} {fr : L2.St → L2.St} {k : Nat} {K : PySem.W.Frag} {a : Addr} {xs : List V} {ds : List D} (hl : Pu tl σ H (.ref a)) (ha : H a = some (.lst xs)) (hz : xs.length ≤ 1000000) (hk : ∀ x, KeepS (fr σ) ((fr σ).set k (some x))) (hlen : ds.length = xs.length)
    (hs : ∀ (i : Nat) x d H', xs[i]? = some x → ds[i]? = some d → Same H H' → Gv te ((fr σ).set k (some x)) H' (fun v H'' => Same H' H'' ∧ ∀ hd, DAt hd H'' v d)) :
    Gv (tComp (iList K tl) fr (gName k) te) σ H (fun v H' => Same H H' ∧ ∃ D ys, v = .ref D ∧ H D = none ∧ H' D = some (.lst ys) ∧ ∀ hd, DsAt hd H' ys ds) := by
  intro Q g
  refine hl _ ⟨a, rfl, ⟨xs, SqL.of ha⟩, fun D hD => ?_⟩
  refine ⟨fun i m ys H' => m = xs.length - i ∧ i ≤ xs.length ∧ ys.length = i ∧ Same H H' ∧ H' D = some (.lst ys) ∧ ∀ hd, DsAt hd H' ys (ds.take i), ⟨_, rfl, Nat.zero_le _, rfl, Same.upd hD, upd_same, fun hd => .nil⟩, ?_⟩
  rintro i m ys H' ⟨rfl, hi, hy, s', hD', hR⟩
  by_cases hlt : i < xs.length
  · refine .inr ⟨⟨xs, xs[i], SqL.of (s' _ _ ha), by simp [hlt]⟩, Nat.lt_of_le_of_lt (show ys.length ≤ 1000000 by omega) (by decide), fun x H3 y => ?_⟩
    obtain ⟨e, y⟩ := y
    subst e
    have hx : xs[i]? = some x := y xs (SqL.of (s' _ _ ha))
    have hdi : ds[i]? = some ds[i] := List.getElem?_eq_getElem (by omega)
    refine ⟨hk x, hs i x _ _ hx hdi s' _ fun v H4 ⟨s4, r4⟩ => ⟨s4 _ _ hD', _, by omega, rfl, hlt, by simp [hy], same_updNew (s'.trans s4) hD, upd_same, fun hd => ?_⟩⟩
    have hD4 := s4 _ _ hD'
    have up : SameB D H4 (upd H4 D (.lst (ys ++ [v]))) := SameB.upd
    rw [List.take_succ, hdi]
    exact DsAt.snoc' (DsAt.butD hD4 up ((hR hd).same s4) ((hR D).same s4)) (DAt.butD hD4 up (r4 hd) (r4 D))
  · have e : i = xs.length := by omega
    subst e
    refine .inl ⟨⟨xs, SqL.of (s' _ _ ha), Nat.le_refl _⟩, g _ _ ⟨s', D, ys, rfl, hD, hD', fun hd => ?_⟩⟩
    have := hR hd
    rwa [← hlen, List.take_length] at this
/-- [.. for x in xs[:1]] + xs[1:] -/
theorem gv_compCat {σ : L2.St} {H : Hp} {te tl : TE} {fr : L2.St → L2.St} {k : Nat} {K : PySem.W.Frag} {a : Addr} {xs : List V} {ds : List D} (hl : ∀ H', Same H H' → Pu tl σ H' (.ref a)) (ha : H a = some (.lst xs)) (hz : xs.length ≤ 1000) (hk : ∀ x, KeepS (fr σ) ((fr σ).set k (some x))) (hlen : ds.length = (xs.take 1).length)
    (hs : ∀ (i : Nat) x d H', (xs.take 1)[i]? = some x → ds[i]? = some d → Same H H' → Gv te ((fr σ).set k (some x)) H' (fun v H'' => Same H' H'' ∧ ∀ hd, DAt hd H'' v d)) :
    Gv (tOp rCat (tComp (iList K (tSl (rSlL K) tl tNoPart (tPart (tC (.int 1))))) fr (gName k) te) (tSl (rSlL K) tl (tPart (tC (.int 1))) tNoPart)) σ H (fun v H' => ∃ p ys H3, v = .ref p ∧ Same H H3 ∧ H3 p = none ∧ H' = upd H3 p (.lst (ys ++ xs.drop 1)) ∧ ∀ hd, DsAt hd H3 ys ds) := by
  refine gv_opG' (R1 := fun v H' => Same H H' ∧ ∃ D ys, v = .ref D ∧ H' D = some (.lst ys) ∧ ∀ hd, DsAt hd H' ys ds) (R2 := fun x y H' => Same H H' ∧ ∃ D ys q, x = .ref D ∧ y = .ref q ∧ H' D = some (.lst ys) ∧ H' q = some (.lst (xs.drop 1)) ∧ ∀ hd, DsAt hd H' ys ds) (gv_compOf (gv_lTo (k := 1) (hl H Same.rfl') pu_c ha) ?_) ?_ ?_
  · rintro _ _ ⟨p, hp, rfl, rfl⟩
    refine (gv_compRa (ds := ds) pu_c upd_same (by rw [List.length_take]; omega) hk hlen fun i x d H' hx hd s' => hs i x d H' hx hd ((Same.upd hp).trans s')).imp ?_
    rintro _ H' ⟨s', D, ys, rfl, _, h1, h2⟩
    exact ⟨(Same.upd hp).trans s', D, ys, rfl, h1, h2⟩
  · rintro _ H1 ⟨s1, D, ys, rfl, h1, h2⟩
    refine (gv_lFrom (k := 1) (hl H1 s1) pu_c (s1 _ _ ha)).imp ?_
    rintro _ _ ⟨p, hp, rfl, rfl⟩
    exact ⟨s1.trans (Same.upd hp), D, ys, p, rfl, rfl, Same.upd hp _ _ h1, upd_same, fun hd => (h2 hd).same (Same.upd hp)⟩
  · rintro _ _ H2 ⟨s2, D, ys, q, rfl, rfl, h1, h3, h2⟩ Q g
    have l1 := (h2 q).len
    refine ⟨D, q, ys, _, rfl, rfl, h1, h3, ?_, fun p hp => g _ _ ⟨p, ys, H2, rfl, s2, hp, rfl, h2⟩⟩
    rw [l1, hlen, List.length_take, List.length_drop]
    exact Nat.le_trans (show _ ≤ 2000 by omega) (by decide)
theorem drop_end (a b : List Str) : (a ++ b).drop ((a ++ b).length - b.length) = b := by
  rw [List.length_append, Nat.add_sub_cancel, List.drop_left]
def sp_l_wish_from (n : Nat) : Sp := fun vs H Q _ => ∃ (l : Addr) (ws : List Str) (i : Nat), vs = [.ref l, .int (i : Int), .int (n : Int)] ∧ H l = some (.lst (ws.map V.str)) ∧ (∀ w ∈ ws, TxOk w) ∧ i ≤ ws.length ∧ ws.length ≤ 50000 ∧
  (pW n (ws.drop i) = none → ∀ p H', NewL H H' p [] → Q (.ref p) H') ∧ ∀ d r, pW n (ws.drop i) = some (d, r) → ∀ p v H', NewL H H' p [v, .int ((ws.length - r.length : Nat) : Int)] → (∀ hd, DAt hd H' v d) → Q (.ref p) H'
theorem sc_l_wish_from : FnScope ["_law_words", "_law_at", "_law_deep", "_law_one", "_law_first", "_law_other"] ["_law_words", "_law_at", "_law_deep"] (defScope s_l_wish_from) := ⟨rfl, rfl, rfl, by decide +kernel, rfl, by decide +kernel, by decide +kernel⟩
theorem okA_wf (T : Txt K mg t w) {n k : Nat} {spP : Sp} (GP : FnOk P w K mg base CX0 k t.f_l_wish_from t.d_l_wish_from ["_law_words", "_law_at", "_law_deep"] spP) (hk : 8 ≤ k) (hsp : ∀ m, n = m + 1 → spP = sp_l_wish_from m) : FnOk P w K mg base CX0 (k + 1) t.f_l_wish_from t.d_l_wish_from ["_law_words", "_law_at", "_law_deep"] (sp_l_wish_from n) := by
  have ok_l_wish_from := fun (_ : Txt K mg t w) => GP
  refine T.l_wish_from.F.ok (k := k) sc_l_wish_from (fun vs H Q E h => ?_) (fun cdv A outer s H vs Q E hr h => ?_)
  · obtain ⟨l, ws, i, rfl, _⟩ := h
    rfl
  · obtain ⟨l, ws, i, rfl, hl, tk, hi, hz, k1, k2⟩ := h
    refine ⟨_, (@pss_cons _ _ _ _ _ (@ps_set _ _ 3 _ _ _ _ sc_l_wish_from.nd rfl (Or.inr rfl) (@pe_slice _ _ _ _ _ _ _ _ _ _ sl_list (@pe_op _ _ _ _ _ _ _ _ op_cat (pv 0) (@pe_lst _ _ _ _ (@pa_cons _ _ _ _ _ (@pe_str _ _ _ _) (@pa_cons _ _ _ _ _ (@pe_str _ _ _ _) (@pa_cons _ _ _ _ _ (@pe_str _ _ _ _) (@pa_nil _) star_con) star_con) star_con))) (@po_some _ _ _ (pv 1)) (@po_some _ _ _ (@pe_op _ _ _ _ _ _ _ _ op_add (pv 1) (@pe_int _ _ _ _)))) (by rfl) (by first | exact .inl rfl | exact .inr rfl | assumption)) (@pss_cons _ _ _ _ _ (@ps_if _ _ _ _ _ _ _ _ (@pt_cmpR _ _ _ _ _ _ _ _ op_eq (pv 2) (@pe_int _ _ _ _) (nomark _)) (@pss_one _ _ _ (@ps_ret _ _ _ _ (@pe_lst _ _ _ _ (@pa_nil _)))) (@pss_nil _)) (@pss_cons _ _ _ _ _ (@ps_if _ _ _ _ _ _ _ _ (PW.pt (@pw_and _ _ _ _ _ _ _ (@pt_cmpR _ _ _ _ _ _ _ _ op_eq (@pe_ix _ _ _ _ _ _ _ ix_list (pv 3) (@pe_int _ _ _ _) (fun _ _ => rfl)) (@pe_str _ _ _ _) (nomark _)) (@pw_and1 _ _ _ _ (@pt_val _ _ _ (@pe_fn _ _ _ _ _ _ _ _ _ _ _ _ _ _ T.l_is_name (ok_l_is_name T) hr (by omega) (@pa_cons _ _ _ _ _ (@pe_ix _ _ _ _ _ _ _ ix_list (pv 3) (@pe_int _ _ _ _) (fun _ _ => rfl)) (@pa_nil _) star_sub) (by rfl) (by decide) (by rfl) (by rfl)) (by intro _; rfl))))) (@pss_one _ _ _ (@ps_ret _ _ _ _ (@pe_lst _ _ _ _ (@pa_cons _ _ _ _ _ (@pe_tup _ _ _ _ _ (@pa_cons _ _ _ _ _ (@pe_str _ _ _ _) (@pa_cons _ _ _ _ _ (@pe_ix _ _ _ _ _ _ _ ix_list (pv 3) (@pe_int _ _ _ _) (fun _ _ => rfl)) (@pa_nil _) star_sub) star_con)) (@pa_cons _ _ _ _ _ (@pe_op _ _ _ _ _ _ _ _ op_add (pv 1) (@pe_int _ _ _ _)) (@pa_nil _) star_bin) star_tup)))) (@pss_nil _)) (@pss_cons _ _ _ _ _ (@ps_if _ _ _ _ _ _ _ _ (PW.pt (@pw_and _ _ _ _ _ _ _ (@pt_cmpR _ _ _ _ _ _ _ _ op_eq (@pe_ix _ _ _ _ _ _ _ ix_list (pv 3) (@pe_int _ _ _ _) (fun _ _ => rfl)) (@pe_str _ _ _ _) (nomark _)) (@pw_and _ _ _ _ _ _ _ (@pt_val _ _ _ (@pe_fn _ _ _ _ _ _ _ _ _ _ _ _ _ _ T.l_is_name (ok_l_is_name T) hr (by omega) (@pa_cons _ _ _ _ _ (@pe_ix _ _ _ _ _ _ _ ix_list (pv 3) (@pe_int _ _ _ _) (fun _ _ => rfl)) (@pa_nil _) star_sub) (by rfl) (by decide) (by rfl) (by rfl)) (by intro _; rfl)) (@pw_and1 _ _ _ _ (@pt_cmpR _ _ _ _ _ _ _ _ (op_neNil hr.units) (@pe_fn _ _ _ _ _ _ _ _ _ _ _ _ _ _ T.l_top (ok_l_top T) hr (by omega) (@pa_cons _ _ _ _ _ (@pe_ix _ _ _ _ _ _ _ ix_list (pv 3) (@pe_int _ _ _ _) (fun _ _ => rfl)) (@pa_nil _) star_sub) (by rfl) (by decide) (by rfl) (by rfl)) (@pe_lst _ _ _ _ (@pa_nil _)) (nomark _)))))) (@pss_one _ _ _ (@ps_ret _ _ _ _ (@pe_lst _ _ _ _ (@pa_cons _ _ _ _ _ (@pe_tup _ _ _ _ _ (@pa_cons _ _ _ _ _ (@pe_str _ _ _ _) (@pa_cons _ _ _ _ _ (@pe_ix _ _ _ _ _ _ _ ix_list (pv 3) (@pe_int _ _ _ _) (fun _ _ => rfl)) (@pa_cons _ _ _ _ _ (@pe_ix _ _ _ _ _ _ _ ix_list (@pe_fn _ _ _ _ _ _ _ _ _ _ _ _ _ _ T.l_top (ok_l_top T) hr (by omega) (@pa_cons _ _ _ _ _ (@pe_ix _ _ _ _ _ _ _ ix_list (pv 3) (@pe_int _ _ _ _) (fun _ _ => rfl)) (@pa_nil _) star_sub) (by rfl) (by decide) (by rfl) (by rfl)) (@pe_int _ _ _ _) (fun _ _ => rfl)) (@pa_nil _) star_sub) star_sub) star_con)) (@pa_cons _ _ _ _ _ (@pe_op _ _ _ _ _ _ _ _ op_add (pv 1) (@pe_int _ _ _ _)) (@pa_nil _) star_bin) star_tup)))) (@pss_nil _)) (@pss_cons _ _ _ _ _ (@ps_if _ _ _ _ _ _ _ _ (PW.pt (@pw_and _ _ _ _ _ _ _ (@pt_cmpR _ _ _ _ _ _ _ _ op_eq (@pe_ix _ _ _ _ _ _ _ ix_list (pv 3) (@pe_int _ _ _ _) (fun _ _ => rfl)) (@pe_str _ _ _ _) (nomark _)) (@pw_and1 _ _ _ _ (@pt_cmpR _ _ _ _ _ _ _ _ (op_neNil hr.units) (@pe_fn _ _ _ _ _ _ _ _ _ _ _ _ _ _ T.l_top (ok_l_top T) hr (by omega) (@pa_cons _ _ _ _ _ (@pe_ix _ _ _ _ _ _ _ ix_list (pv 3) (@pe_int _ _ _ _) (fun _ _ => rfl)) (@pa_nil _) star_sub) (by rfl) (by decide) (by rfl) (by rfl)) (@pe_lst _ _ _ _ (@pa_nil _)) (nomark _))))) (@pss_one _ _ _ (@ps_ret _ _ _ _ (@pe_lst _ _ _ _ (@pa_cons _ _ _ _ _ (@pe_tup _ _ _ _ _ (@pa_cons _ _ _ _ _ (@pe_str _ _ _ _) (@pa_cons _ _ _ _ _ (@pe_ix _ _ _ _ _ _ _ ix_list (@pe_fn _ _ _ _ _ _ _ _ _ _ _ _ _ _ T.l_top (ok_l_top T) hr (by omega) (@pa_cons _ _ _ _ _ (@pe_ix _ _ _ _ _ _ _ ix_list (pv 3) (@pe_int _ _ _ _) (fun _ _ => rfl)) (@pa_nil _) star_sub) (by rfl) (by decide) (by rfl) (by rfl)) (@pe_int _ _ _ _) (fun _ _ => rfl)) (@pa_nil _) star_sub) star_con)) (@pa_cons _ _ _ _ _ (@pe_op _ _ _ _ _ _ _ _ op_add (pv 1) (@pe_int _ _ _ _)) (@pa_nil _) star_bin) star_tup)))) (@pss_nil _)) (@pss_cons _ _ _ _ _ (@ps_if _ _ _ _ _ _ _ _ (@pt_cmpR _ _ _ _ _ _ _ _ op_notIn_seq (@pe_ix _ _ _ _ _ _ _ ix_list (pv 3) (@pe_int _ _ _ _) (fun _ _ => rfl)) (@pe_lst _ _ _ _ (@pa_cons _ _ _ _ _ (@pe_str _ _ _ _) (@pa_cons _ _ _ _ _ (@pe_str _ _ _ _) (@pa_cons _ _ _ _ _ (@pe_str _ _ _ _) (@pa_nil _) star_con) star_con) star_con)) rfl) (@pss_one _ _ _ (@ps_ret _ _ _ _ (@pe_lst _ _ _ _ (@pa_nil _)))) (@pss_nil _)) (@pss_cons _ _ _ _ _ (@ps_set _ _ 4 _ _ _ _ sc_l_wish_from.nd rfl (Or.inr rfl) (@pe_fn _ _ _ _ _ _ _ _ _ _ _ _ _ _ T.l_wish_from (ok_l_wish_from T) hr (by omega) (@pa_cons _ _ _ _ _ (pv 0) (@pa_cons _ _ _ _ _ (@pe_op _ _ _ _ _ _ _ _ op_add (pv 1) (@pe_int _ _ _ _)) (@pa_cons _ _ _ _ _ (@pe_op _ _ _ _ _ _ _ _ op_sub (pv 2) (@pe_int _ _ _ _)) (@pa_nil _) star_bin) star_bin) star_name) (by rfl) (by decide) (by rfl) (by rfl)) (by rfl) (by first | exact .inl rfl | exact .inr rfl | assumption)) (@pss_cons _ _ _ _ _ (@ps_if _ _ _ _ _ _ _ _ (PW.pt (@pw_or _ _ _ _ _ _ _ (@pt_cmpR _ _ _ _ _ _ _ _ (op_eqNil hr.units) (pv 4) (@pe_lst _ _ _ _ (@pa_nil _)) (nomark _)) (@pw_or1 _ _ _ _ (@pt_cmpR _ _ _ _ _ _ _ _ op_eq (@pe_ix _ _ _ _ _ _ _ ix_list (pv 3) (@pe_int _ _ _ _) (fun _ _ => rfl)) (@pe_str _ _ _ _) (nomark _))))) (@pss_one _ _ _ (@ps_ret _ _ _ _ (@pe_op _ _ _ _ _ _ _ _ op_cat (@pe_lcomp _ _ _ _ _ [] _ ["_law_wish_here"] _ (fun _ => [none]) _ _ rfl (@pi_list _ _ _ _ (@pe_slice _ _ _ _ _ _ _ _ _ _ sl_list (pv 4) (@po_none _) (@po_some _ _ _ (@pe_int _ _ _ _)))) (fun _ _ _ _ => pg_name (i := 0) (List.nodup_cons.mpr ⟨fun h => (nomatch h), List.nodup_nil⟩) rfl (Or.inl rfl) (.inr rfl)) (fun _ _ _ _ => (@pe_tup _ _ _ _ _ (@pa_cons _ _ _ _ _ (@pe_str _ _ _ _) (@pa_cons _ _ _ _ _ (pv 0) (@pa_nil _) star_name) star_con))) (closureFor_none (by decide +kernel)) rfl (by decide +kernel) (by decide +kernel) (fun _ _ h => by cases h) (noCells (by rfl)) (fun _ _ => rfl) (fun _ i _ _ _ h => by cases i with | zero => cases h | succ i => simp at h) (by intro _; rfl)) (@pe_slice _ _ _ _ _ _ _ _ _ _ sl_list (pv 4) (@po_some _ _ _ (@pe_int _ _ _ _)) (@po_none _))))) (@pss_nil _)) (@pss_cons _ _ _ _ _ (@ps_set _ _ 5 _ _ _ _ sc_l_wish_from.nd rfl (Or.inl rfl) (@pe_fn _ _ _ _ _ _ _ _ _ _ _ _ _ _ T.l_wish_from (ok_l_wish_from T) hr (by omega) (@pa_cons _ _ _ _ _ (pv 0) (@pa_cons _ _ _ _ _ (@pe_ix _ _ _ _ _ _ _ ix_list (pv 4) (@pe_int _ _ _ _) (fun _ _ => rfl)) (@pa_cons _ _ _ _ _ (@pe_op _ _ _ _ _ _ _ _ op_sub (pv 2) (@pe_int _ _ _ _)) (@pa_nil _) star_bin) star_sub) star_name) (by rfl) (by decide) (by rfl) (by rfl)) (by rfl) (by first | exact .inl rfl | exact .inr rfl | assumption)) (@pss_one _ _ _ (@ps_ret _ _ _ _ (@pe_op _ _ _ _ _ _ _ _ op_cat (@pe_lcompD _ "_law_wish_here" "_law_one" "_law_first" _ _ _ _ _ _ _ _ _ 3 4 rfl (@pi_list _ _ _ _ (@pe_slice _ _ _ _ _ _ _ _ _ _ sl_list (pv 5) (@po_none _) (@po_some _ _ _ (@pe_int _ _ _ _)))) (fun _ _ _ _ => pg_name (i := 0) (show (["_law_wish_here", "_law_one", "_law_first"] : List Str).Nodup from by decide +kernel) rfl (Or.inl rfl) (.inr rfl)) (fun _ _ _ _ => (@pe_tup _ _ _ _ _ (@pa_cons _ _ _ _ _ (@pe_ix _ _ _ _ _ _ _ (ix_listK (K := K) rfl) (pv 1) (@pe_int _ _ _ _) (fun _ _ => rfl)) (@pa_cons _ _ _ _ _ (@pe_ix _ _ _ _ _ _ _ (ix_listK (K := K) rfl) (pv 2) (@pe_int _ _ _ _) (fun _ _ => rfl)) (@pa_cons _ _ _ _ _ (pv 0) (@pa_nil _) star_name) star_sub) star_sub))) rfl rfl (by decide +kernel) (by decide +kernel) (And.intro rfl (And.intro rfl (And.intro rfl rfl))) (And.intro rfl (And.intro rfl (And.intro rfl rfl))) rfl (by intro _; rfl)) (@pe_slice _ _ _ _ _ _ _ _ _ _ sl_list (pv 5) (@po_some _ _ _ (@pe_int _ _ _ _)) (@po_none _)))))))))))))), ?_⟩
    have big : 1000000 ≤ sizeLine := by decide
    have nl : H l ≠ none := some_ne hl
    have dl : (ws.drop i).length = ws.length - i := List.length_drop
    have tok : ∀ j, TxOk (oAt (ws.drop i) j) := fun j => by
      unfold oAt
      cases h : (ws.drop i)[j]? with
      | none => exact ⟨by decide +kernel, by decide +kernel⟩
      | some w => exact tk w (List.mem_of_mem_drop (List.mem_of_getElem? h))
    have lonely : ∀ {j : Nat}, (oAt (ws.drop i) j = Str.ofString "" → False) → i + j + 1 ≤ ws.length := fun {j} h => by
      cases e : (ws.drop i)[j]? with
      | none => exact (h (by unfold oAt; rw [e]; rfl)).elim
      | some w =>
        have := (List.getElem?_eq_some_iff.mp e).1
        omega
    revert k1 k2 tok lonely
    generalize hR : ws.drop i = R
    rw [hR] at dl
    intro k1 k2 tok lonely
    have no : pW n R = none → ∀ {D : Ends} {σ : L2.St} {H' : Hp}, D.rt = Q → Same H H' → tRet (tLst tNil) D σ H' := fun e D σ H' ed s' => by
      refine st_retG gv_nil fun v H'' ⟨q, hq, e1, e2⟩ => ?_
      subst e1 e2
      rw [ed]
      exact k1 e q _ ⟨same_none s' hq, s'.trans (Same.upd hq), upd_same⟩
    -- a pair made
    have yes : ∀ {d : D} {r : List Str} {m : Nat}, pW n R = some (d, r) → ws.length - r.length = m → ∀ {H' : Hp} {v : V} {a' : Addr}, Same H H' → (∀ hd, DAt hd H' v d) → H' a' = none → Q (.ref a') (upd H' a' (.lst [v, .int (m : Int)])) := fun {d r m} e em {H' v a'} s' nv ha' => by
      refine k2 d r e a' v _ ⟨same_none s' ha', s'.trans (Same.upd ha'), ?_⟩ (fun hd => (nv hd).same (Same.upd ha'))
      rw [em]
      exact upd_same
    refine st_setG (R := fun v H' => ∃ p, v = .ref p ∧ Same H H' ∧ H' p = some (.lst [.str (oAt R 0), .str (oAt R 1), .str (oAt R 2)])) (gv_lMidG (R := fun v H' => ∃ p2, v = .ref p2 ∧ Same H H' ∧ H' p2 = some (.lst (ws.map V.str ++ [.str (Str.ofString ""), .str (Str.ofString ""), .str (Str.ofString "")]))) (gv_opG' (R1 := fun v H' => v = .ref l ∧ H = H') (R2 := fun x y H' => x = .ref l ∧ ∃ p1, H p1 = none ∧ y = .ref p1 ∧ H' = upd H p1 (.lst [.str (Str.ofString ""), .str (Str.ofString ""), .str (Str.ofString "")])) (Pu.gv' (pu_v rfl) ⟨rfl, rfl⟩) ?_ ?_) ?_) ?_
    · rintro _ _ ⟨rfl, rfl⟩
      exact (gv_lst (vs := [.str (Str.ofString ""), .str (Str.ofString ""), .str (Str.ofString "")]) (pa_c pu_c (pa_c pu_c (pa_c pu_c pa_n))) len3).imp fun v H' r => ⟨rfl, r⟩
    · rintro _ _ _ ⟨rfl, p1, hp1, rfl, rfl⟩ Q q
      exact ⟨l, p1, _, _, rfl, rfl, Same.upd hp1 _ _ hl, upd_same, by rw [List.length_map]; show ws.length + 3 ≤ sizeLine; omega, fun p2 hp2 => q _ _ ⟨p2, rfl, (Same.upd hp1).trans (Same.upd hp2), upd_same⟩⟩
    · rintro _ H1 ⟨p2, rfl, s1, h2⟩
      refine ⟨p2, _, (i : Int), ((i + 3 : Nat) : Int), rfl, pu_v rfl, pu_cast (pu_add (pu_v rfl) pu_c) rfl, h2, fun p3 hp3 => ⟨p3, rfl, s1.trans (Same.upd hp3), ?_⟩⟩
      rw [upd_same]
      unfold cutV
      rw [cut_mid _ i 3 (by rw [List.length_append, List.length_map]; show i + 3 ≤ ws.length + 3; omega), List.drop_append_of_le_length (by rw [List.length_map]; exact hi), ← List.map_drop, hR, one_is]
    rintro _ H1 ⟨po, rfl, s1, ho⟩
    have I0 : ∀ {σ : L2.St} {H' : Hp}, σ[3]? = some (some (.ref po)) → Same H1 H' → Pu (tOp (rIxL K) (tVar 3) (tC (.int 0))) σ H' (.str (oAt R 0)) := fun h s' => pu_ixL (pu_v h) pu_c (SqL.of (s' _ _ ho)) at0
    have I1 : ∀ {σ : L2.St} {H' : Hp}, σ[3]? = some (some (.ref po)) → Same H1 H' → Pu (tOp (rIxL K) (tVar 3) (tC (.int 1))) σ H' (.str (oAt R 1)) := fun h s' => pu_ixL (pu_v h) pu_c (SqL.of (s' _ _ ho)) at1
    have I2 : ∀ {σ : L2.St} {H' : Hp}, σ[3]? = some (some (.ref po)) → Same H1 H' → Pu (tOp (rIxL K) (tVar 3) (tC (.int 2))) σ H' (.str (oAt R 2)) := fun h s' => pu_ixL (pu_v h) pu_c (SqL.of (s' _ _ ho)) at2
    have AD : ∀ {σ : L2.St} {H' : Hp} (c : Nat), σ[1]? = some (some (.int (i : Int))) → Pu (tOp (rI0 fun i j => .int (i + j)) (tVar 1) (tC (.int (c : Int)))) σ H' (.int ((i + c : Nat) : Int)) := fun c h => pu_cast (pu_add (pu_v h) pu_c) (by show V.int ((i : Int) + (c : Int)) = V.int ((i + c : Nat) : Int); rfl)
    cases n with
    | zero =>
      refine st_ifN (b := true) (pt_t (pu_cast (pu_eqI (pu_v rfl) pu_c) (by rw [decide_eq_true]; rfl))) (fun _ => ?_) (fun e => by cases e)
      exact no rfl rfl s1
    | succ n =>
    have e := hsp n rfl
    subst e
    refine st_ifN (b := false) (pt_t (pu_cast (pu_eqI (pu_v rfl) pu_c) (by rw [decide_eq_false]; omega))) (fun e => by cases e) (fun _ => ?_)
    -- in
    refine st_ifN (pt_and (pt_t (pu_eqStr (I0 rfl Same.rfl') pu_c)) fun _ => pt_b (pu_call (sp := sp_l_is_name) (pa_c (I1 rfl Same.rfl') pa_n) fun Q q => ⟨_, rfl, tok 1, q⟩)) (fun e => ?_) (fun c1 => ?_)
    · rw [Bool.and_eq_true, decide_eq_true_iff] at e
      have hlen : i + 1 + 1 ≤ ws.length := lonely fun z => by rw [z, nm_nil] at e; cases e.2
      have ep := pW_in (n := n) e.1
      rw [if_pos e.2] at ep
      refine st_retG (R := fun v H' => Q v H') (gv_lstA (RA := fun vs H' => ∃ q, H1 q = none ∧ vs = [.ref q, .int ((i + 2 : Nat) : Int)] ∧ H' = upd H1 q (.tup [.str (Str.ofString "in"), .str (oAt R 1)])) (fun Q2 q2 => gv_tup (pa_c pu_c (pa_c (I1 rfl Same.rfl') pa_n)) len2 _ ?_) ?_) fun _ _ z => z
      · rintro _ _ ⟨q, hq, rfl, rfl⟩
        exact AD 2 rfl _ (q2 _ _ ⟨q, hq, rfl, rfl⟩)
      · rintro _ _ ⟨q, hq, rfl, rfl⟩
        refine ⟨len2, fun a' ha' => yes ep (by rw [List.length_drop]; omega) (s1.trans (Same.upd hq)) (fun hd => .tup upd_same (.cons (.str _ (by decide +kernel)) (.cons (.str _ (nAsc e.2)) .nil))) ha'⟩
    -- round
    refine st_ifNG (R := fun b H' => b = (decide (oAt R 0 = Str.ofString "round") && (nameOk (oAt R 1) && (rW (oAt R 2)).isSome)) ∧ Same H1 H') (gt_and (R := fun b H' => b = decide (oAt R 0 = Str.ofString "round") ∧ H1 = H') (PuT.gt (pt_t (pu_eqStr (I0 rfl Same.rfl') pu_c)) ⟨rfl, rfl⟩) (fun H2 r2 => ?_) (fun H2 r2 => ⟨by rw [← r2.1]; rfl, by rw [r2.2]; exact Same.rfl'⟩)) (fun H2 r2 => ?_) (fun H2 c2 => ?_)
    · obtain ⟨e2, rfl⟩ := r2
      rw [← e2]
      refine gt_and (R := fun b H' => b = nameOk (oAt R 1) ∧ H1 = H') (PuT.gt (pt_b (pu_call (sp := sp_l_is_name) (pa_c (I1 rfl Same.rfl') pa_n) fun Q q => ⟨_, rfl, tok 1, q⟩)) ⟨rfl, rfl⟩) (fun H2 r2 => ?_) (fun H2 r2 => ⟨by rw [← r2.1]; rfl, by rw [r2.2]; exact Same.rfl'⟩)
      obtain ⟨e3, rfl⟩ := r2
      rw [← e3]
      exact (gt_neNil (gv_ltop (pa_c (I2 rfl Same.rfl') pa_n) (tok 2))).imp fun b H' r => ⟨by rw [r.1]; rfl, r.2⟩
    · obtain ⟨e2, s2⟩ := r2
      have e2 := e2.symm
      rw [Bool.and_eq_true, Bool.and_eq_true, decide_eq_true_iff] at e2
      obtain ⟨a1, a2, a3⟩ := e2
      obtain ⟨z, hz'⟩ := Option.isSome_iff_exists.mp a3
      have hlen : i + 2 + 1 ≤ ws.length := lonely fun y => by rw [y, rW_nil] at hz'; cases hz'
      have ep := pW_round (n := n) a1
      rw [if_pos a2, hz'] at ep
      refine st_retG (R := fun v H' => Q v H') (gv_lstA (RA := fun vs H' => ∃ q, vs = [.ref q, .int ((i + 3 : Nat) : Int)] ∧ Same H2 H' ∧ H' q = some (.tup [.str (Str.ofString "round"), .str (oAt R 1), .int z])) (fun Q2 q2 => gv_tupA (R := fun v H' => ∃ q, v = .ref q ∧ Same H2 H' ∧ H' q = some (.tup [.str (Str.ofString "round"), .str (oAt R 1), .int z])) (RA := fun vs H' => vs = [.str (Str.ofString "round"), .str (oAt R 1), .int z] ∧ Same H2 H') (fun Q3 q3 => pu_c (v := .str (Str.ofString "round")) _ (I1 rfl s2 _ (gv_ixTop hz' (gv_ltop (pa_c (I2 rfl s2) pa_n) (tok 2)) _ fun v H' r => q3 _ _ ⟨by rw [r.1], r.2⟩))) ?_ _ ?_) ?_) fun _ _ z => z
      · rintro _ H3 ⟨rfl, s3⟩
        exact ⟨len3, fun q hq => ⟨q, rfl, s3.trans (Same.upd hq), upd_same⟩⟩
      · rintro _ H3 ⟨q, rfl, s3, hq⟩
        exact AD 3 rfl _ (q2 _ _ ⟨q, rfl, s3, hq⟩)
      · rintro _ H3 ⟨q, rfl, s3, hq⟩
        refine ⟨len2, fun a' ha' => yes ep (by rw [List.length_drop]; omega) (s1.trans (s2.trans s3)) (fun hd => .tup hq (.cons (.str _ (by decide +kernel)) (.cons (.str _ (nAsc a2)) (.cons (.int z) .nil)))) ha'⟩
    obtain ⟨c2, s2⟩ := c2
    -- least
    refine st_ifNG (R := fun b H' => b = (decide (oAt R 0 = Str.ofString "least") && (rW (oAt R 1)).isSome) ∧ Same H1 H') (gt_and (R := fun b H' => b = decide (oAt R 0 = Str.ofString "least") ∧ Same H1 H') (PuT.gt (pt_t (pu_eqStr (I0 rfl s2) pu_c)) ⟨rfl, s2⟩) (fun H3 r3 => ?_) (fun H3 r3 => ⟨by rw [← r3.1]; rfl, r3.2⟩)) (fun H3 r3 => ?_) (fun H3 c3 => ?_)
    · obtain ⟨e3, s3⟩ := r3
      rw [← e3]
      exact (gt_neNil (gv_ltop (pa_c (I1 rfl s3) pa_n) (tok 1))).imp fun b H' r => ⟨by rw [r.1]; rfl, s3.trans r.2⟩
    · obtain ⟨e2, s3⟩ := r3
      have e2 := e2.symm
      rw [Bool.and_eq_true, decide_eq_true_iff] at e2
      obtain ⟨a1, a3⟩ := e2
      obtain ⟨z, hz'⟩ := Option.isSome_iff_exists.mp a3
      have hlen : i + 1 + 1 ≤ ws.length := lonely fun y => by rw [y, rW_nil] at hz'; cases hz'
      have ep := pW_least (n := n) a1
      rw [hz'] at ep
      refine st_retG (R := fun v H' => Q v H') (gv_lstA (RA := fun vs H' => ∃ q, vs = [.ref q, .int ((i + 2 : Nat) : Int)] ∧ Same H3 H' ∧ H' q = some (.tup [.str (Str.ofString "least"), .int z])) (fun Q2 q2 => gv_tupA (R := fun v H' => ∃ q, v = .ref q ∧ Same H3 H' ∧ H' q = some (.tup [.str (Str.ofString "least"), .int z])) (RA := fun vs H' => vs = [.str (Str.ofString "least"), .int z] ∧ Same H3 H') (fun Q3 q3 => pu_c (v := .str (Str.ofString "least")) _ (gv_ixTop hz' (gv_ltop (pa_c (I1 rfl s3) pa_n) (tok 1)) _ fun v H' r => q3 _ _ ⟨by rw [r.1], r.2⟩)) ?_ _ ?_) ?_) fun _ _ z => z
      · rintro _ H4 ⟨rfl, s4⟩
        exact ⟨len2, fun q hq => ⟨q, rfl, s4.trans (Same.upd hq), upd_same⟩⟩
      · rintro _ H4 ⟨q, rfl, s4, hq⟩
        exact AD 2 rfl _ (q2 _ _ ⟨q, rfl, s4, hq⟩)
      · rintro _ H4 ⟨q, rfl, s4, hq⟩
        refine ⟨len2, fun a' ha' => yes ep (by rw [List.length_drop]; omega) (s1.trans (s3.trans s4)) (fun hd => .tup hq (.cons (.str _ (by decide +kernel)) (.cons (.int z) .nil))) ha'⟩
    obtain ⟨c3, s3⟩ := c3
    -- no, both, any
    have eN : inV (.str (oAt R 0)) [.str (Str.ofString "no"), .str (Str.ofString "both"), .str (Str.ofString "any")] = decide (oAt R 0 = Str.ofString "no" ∨ oAt R 0 = Str.ofString "both" ∨ oAt R 0 = Str.ofString "any") := by
      rw [Bool.eq_iff_iff, decide_eq_true_iff]
      simp only [inV, List.any_cons, List.any_nil, eqV, Bool.or_false, Bool.or_eq_true, beq_iff_eq]
      constructor
      · rintro (h | h | h)
        · exact .inl h.symm
        · exact .inr (.inl h.symm)
        · exact .inr (.inr h.symm)
      · rintro (h | h | h)
        · exact .inl h.symm
        · exact .inr (.inl h.symm)
        · exact .inr (.inr h.symm)
    have ne1 : ∀ {a b : Str}, oAt R 0 = a → a ≠ b → oAt R 0 ≠ b := fun h n e => n (h.symm.trans e)
    refine st_ifNG (R := fun b H' => b = (!decide (oAt R 0 = Str.ofString "no" ∨ oAt R 0 = Str.ofString "both" ∨ oAt R 0 = Str.ofString "any")) ∧ Same H1 H') (gt_t2 (gv_opG' (R1 := fun v H' => v = .str (oAt R 0) ∧ H3 = H') (R2 := fun x y H' => x = .str (oAt R 0) ∧ ∃ p1, H3 p1 = none ∧ y = .ref p1 ∧ H' = upd H3 p1 (.lst [.str (Str.ofString "no"), .str (Str.ofString "both"), .str (Str.ofString "any")])) (Pu.gv' (I0 rfl s3) ⟨rfl, rfl⟩) ?_ ?_)) (fun H4 r4 => ?_) (fun H4 c4 => ?_)
    · rintro _ _ ⟨rfl, rfl⟩
      exact (gv_lst (vs := [.str (Str.ofString "no"), .str (Str.ofString "both"), .str (Str.ofString "any")]) (pa_c pu_c (pa_c pu_c (pa_c pu_c pa_n))) len3).imp fun v H' r => ⟨rfl, r⟩
    · rintro _ _ _ ⟨rfl, p1, hp1, rfl, rfl⟩ Q q
      exact ⟨p1, _, rfl, .inl (SqL.of upd_same), rfl, rfl, q _ _ ⟨_, rfl, by rw [← eN]; rfl, s3.trans (Same.upd hp1)⟩⟩
    · obtain ⟨e4, s4⟩ := r4
      have e4 := e4.symm
      rw [Bool.not_eq_true', decide_eq_false_iff_not] at e4
      refine no ?_ rfl (s1.trans s4)
      by_cases h1 : oAt R 0 = Str.ofString "in"
      · rw [pW_in h1]
        rw [decide_eq_true h1, Bool.true_and] at c1
        rw [if_neg (by rw [c1]; decide)]
      by_cases h2 : oAt R 0 = Str.ofString "round"
      · rw [pW_round h2]
        rw [decide_eq_true h2, Bool.true_and] at c2
        by_cases h3 : nameOk (oAt R 1) = true
        · rw [if_pos h3]
          rw [h3, Bool.true_and] at c2
          cases hh : rW (oAt R 2) with
          | none => rfl
          | some z => rw [hh] at c2; cases c2
        · rw [if_neg h3]
      by_cases h3 : oAt R 0 = Str.ofString "least"
      · rw [pW_least h3]
        rw [decide_eq_true h3, Bool.true_and] at c3
        cases hh : rW (oAt R 1) with
        | none => rfl
        | some z => rw [hh] at c3; cases c3
      exact pW_else h1 h2 h3 (fun z => e4 (.inl z)) (fun z => e4 (.inr (.inl z))) (fun z => e4 (.inr (.inr z)))
    obtain ⟨c4, s4⟩ := c4
    have c4 := c4.symm
    rw [Bool.not_eq_false', decide_eq_true_iff] at c4
    have hlen : i + 0 + 1 ≤ ws.length := lonely fun y => by
      rw [y] at c4
      revert c4
      decide +kernel
    have s14 := s1.trans s4
    have hl4 := s14 _ _ hl
    have hdr : ws.drop (i + 1) = R.drop 1 := by rw [← hR, List.drop_drop]
    -- the first
    refine st_setG (R := fun v H' => ∃ p vs, v = .ref p ∧ NewL H4 H' p vs ∧ ((pW n (R.drop 1) = none ∧ vs = []) ∨ ∃ d r x, pW n (R.drop 1) = some (d, r) ∧ vs = [x, .int ((ws.length - r.length : Nat) : Int)] ∧ ∀ hd, DAt hd H' x d)) (gv_call (sp := sp_l_wish_from n) (pa_c (pu_v rfl) (pa_c (AD 1 rfl) (pa_c (pu_cast (pu_sub (pu_v rfl) pu_c) (by show V.int (((n + 1 : Nat) : Int) - 1) = V.int (n : Int); congr 1; omega)) pa_n))) fun Q q => ⟨l, ws, i + 1, rfl, hl4, tk, by omega, hz, fun e p H' nw => ?_, fun d r e p v H' nw nv => ?_⟩) ?_
    · rw [hdr] at e
      exact q _ _ ⟨p, [], rfl, nw, .inl ⟨e, rfl⟩⟩
    · rw [hdr] at e
      exact q _ _ ⟨p, _, rfl, nw, .inr ⟨d, r, v, e, rfl, nv⟩⟩
    rintro _ H5 ⟨pf, fs, rfl, n5, hf⟩
    have s5 := s14.trans n5.2.1
    have nl5 : H4 l ≠ none := some_ne hl4
    have hf5 := n5.2.2
    -- the end, of one
    have ONE : ∀ {D' : Ends} {σ : L2.St} {H6 : Hp}, D'.rt = Q → σ[4]? = some (some (.ref pf)) → Same H5 H6 → (pW n (R.drop 1) = none ∨ oAt R 0 = Str.ofString "no") → tRet (tOp rCat (tComp (iList K (tSl (rSlL K) (tVar 4) tNoPart (tPart (tC (.int 1))))) (fun _ => [none]) (gName 0) (tTup (tCons (tC (.str (Str.ofString "no"))) (tCons (tVar 0) tNil)))) (tSl (rSlL K) (tVar 4) (tPart (tC (.int 1))) tNoPart)) D' σ H6 := fun {D' σ H6} ed h4 s6 hc => by
      have s56 := s5.trans s6
      rcases hf with ⟨e0, rfl⟩ | ⟨d, r, x, e0, rfl, hx⟩
      · refine st_retG (gv_compCat (ds := []) (fun _ _ => pu_v h4) (s6 _ _ hf5) (by simp) (fun _ => KeepS.none1) rfl (fun i x d H' hx => by simp at hx)) ?_
        rintro _ _ ⟨p, ys, H7, rfl, s7, hp7, rfl, hds⟩
        have l0 := (hds l).len
        have : ys = [] := List.eq_nil_of_length_eq_zero l0
        subst this
        rw [ed]
        have en : pW (n + 1) R = none := by
          rcases c4 with h | h
          · rw [pW_no h, e0]
          · rw [pW_two h, e0]
        exact k1 en p _ ⟨same_none (s56.trans s7) hp7, (s56.trans s7).trans (Same.upd hp7), upd_same⟩
      · have hn : oAt R 0 = Str.ofString "no" := by
          rcases hc with h | h
          · rw [e0] at h; cases h
          · exact h
        refine st_retG (gv_compCat (ds := [.tup [.str (Str.ofString "no"), d]]) (fun _ _ => pu_v h4) (s6 _ _ hf5) (by simp) (fun _ => KeepS.none1) rfl ?_) ?_
        · intro j y d' H' hy hd' s'
          cases j with
          | succ j => simp at hy
          | zero =>
          have e1 : x = y := Option.some.inj hy
          have e2 : D.tup [.str (Str.ofString "no"), d] = d' := Option.some.inj hd'
          subst e1 e2
          refine (gv_tup (pa_c pu_c (pa_c (pu_v rfl) pa_n)) len2).imp ?_
          rintro _ _ ⟨q, hq, rfl, rfl⟩
          exact ⟨Same.upd hq, fun hd => .tup upd_same (.cons (.str _ (by decide +kernel)) (.cons ((hx hd).same (s6.trans (s'.trans (Same.upd hq)))) .nil))⟩
        · rintro _ _ ⟨p, ys, H7, rfl, s7, hp7, rfl, hds⟩
          match ys, (hds l).len with
          | [v], _ =>
          rw [ed]
          refine yes (by rw [pW_no hn, e0]) rfl (s56.trans s7) (fun hd => ?_) hp7
          cases hds hd with
          | cons a _ => exact a
    rcases hf with ⟨e0, rfl⟩ | ⟨d, r, x, e0, rfl, hx⟩
    · refine st_ifNG (R := fun b H' => b = true ∧ Same H5 H') (gt_or (gt_eqNil (pu_v rfl) hf5) (fun H6 r6 => by cases r6.1) (fun H6 r6 => ⟨rfl, r6.2⟩)) (fun H6 r6 => ?_) (fun H6 r6 => by cases r6.1)
      exact ONE rfl rfl r6.2 (.inl e0)
    refine st_ifNG (R := fun b H' => b = decide (oAt R 0 = Str.ofString "no") ∧ Same H5 H') (gt_or (gt_eqNil (pu_v rfl) hf5) (fun H6 r6 => PuT.gt (pt_t (pu_eqStr (I0 rfl (s4.trans (n5.2.1.trans r6.2))) pu_c)) ⟨rfl, r6.2⟩) (fun H6 r6 => by cases r6.1)) (fun H6 r6 => ?_) (fun H6 r6 => ?_)
    · exact ONE rfl rfl r6.2 (.inr (of_decide_eq_true r6.1.symm))
    have c5 : oAt R 0 = Str.ofString "both" ∨ oAt R 0 = Str.ofString "any" := by
      have := of_decide_eq_false r6.1.symm
      rcases c4 with h | h
      · exact absurd h this
      · exact h
    obtain ⟨_, s6⟩ := r6
    have s16 := s5.trans s6
    obtain ⟨pre, hpre⟩ := pW_suf n _ _ _ e0
    have hw : ws = ws.take (i + 1) ++ pre ++ r := by
      rw [List.append_assoc, ← hpre, ← hdr, List.take_append_drop]
    have hjd : ws.drop (ws.length - r.length) = r := by
      have := drop_end (ws.take (i + 1) ++ pre) r
      rwa [← hw] at this
    -- the other
    refine st_setG (R := fun v H' => ∃ p vs, v = .ref p ∧ NewL H6 H' p vs ∧ ((pW n r = none ∧ vs = []) ∨ ∃ d' r' x', pW n r = some (d', r') ∧ vs = [x', .int ((ws.length - r'.length : Nat) : Int)] ∧ ∀ hd, DAt hd H' x' d')) (gv_call (sp := sp_l_wish_from n) (pa_c (pu_v rfl) (pa_c (pu_ixL (pu_v rfl) pu_c (SqL.of (s6 _ _ hf5)) at1) (pa_c (pu_cast (pu_sub (pu_v rfl) pu_c) (by show V.int (((n + 1 : Nat) : Int) - 1) = V.int (n : Int); congr 1; omega)) pa_n))) fun Q q => ⟨l, ws, ws.length - r.length, rfl, s16 _ _ hl, tk, by omega, hz, fun e p H' nw => ?_, fun d r e p v H' nw nv => ?_⟩) ?_
    · rw [hjd] at e
      exact q _ _ ⟨p, [], rfl, nw, .inl ⟨e, rfl⟩⟩
    · rw [hjd] at e
      exact q _ _ ⟨p, _, rfl, nw, .inr ⟨d, r, v, e, rfl, nv⟩⟩
    rintro _ H7 ⟨pg, gs, rfl, n7, hg⟩
    have s17 := s16.trans n7.2.1
    have so7 : Same H1 H7 := s4.trans (n5.2.1.trans (s6.trans n7.2.1))
    have hf7 := n7.2.1 _ _ (s6 _ _ hf5)
    have hx7 : ∀ hd, DAt hd H7 x d := fun hd => (hx hd).same (s6.trans n7.2.1)
    have ox4 : (∀ c ∈ (oAt R 0).cps.toList, c < 128) ∧ (oAt R 0).length ≤ 1000 := by
      rcases c5 with h | h
      · rw [h]; exact by decide +kernel
      · rw [h]; exact by decide +kernel
    rcases hg with ⟨e1, rfl⟩ | ⟨d', r', x', e1, rfl, hx'⟩
    · refine st_retG (gv_compCat (ds := []) (fun _ _ => pu_v rfl) n7.2.2 (by simp) (fun x => (KeepS.refl _).cons (some x)) rfl (fun i x d H' hx => by simp at hx)) ?_
      rintro _ _ ⟨p, ys, H8, rfl, s8, hp8, rfl, hds⟩
      have : ys = [] := List.eq_nil_of_length_eq_zero (hds l).len
      subst this
      exact k1 (by rw [pW_two c5, e0]; simp only [e1]) p _ ⟨same_none (s17.trans s8) hp8, (s17.trans s8).trans (Same.upd hp8), upd_same⟩
    · refine st_retG (gv_compCat (ds := [.tup [.str (oAt R 0), d, d']]) (fun _ _ => pu_v rfl) n7.2.2 (by simp) (fun x => (KeepS.refl _).cons (some x)) rfl ?_) ?_
      · intro j y dd H' hy hd' s'
        cases j with
        | succ j => simp at hy
        | zero =>
        have e2 : x' = y := Option.some.inj hy
        have e3 : D.tup [.str (oAt R 0), d, d'] = dd := Option.some.inj hd'
        subst e2 e3
        refine (gv_tup (vs := [.str (oAt R 0), x, x']) (pa_c (pu_ixL (pu_v rfl) pu_c (SqL.of (s' _ _ (so7 _ _ ho))) at0) (pa_c (pu_ixL (pu_v rfl) pu_c (SqL.of (s' _ _ hf7)) at0) (pa_c (pu_v rfl) pa_n))) len3).imp ?_
        rintro _ _ ⟨q, hq, rfl, rfl⟩
        exact ⟨Same.upd hq, fun hd => .tup upd_same (.cons (.str _ ox4) (.cons ((hx7 hd).same (s'.trans (Same.upd hq))) (.cons ((hx' hd).same (s'.trans (Same.upd hq))) .nil)))⟩
      · rintro _ _ ⟨p, ys, H8, rfl, s8, hp8, rfl, hds⟩
        match ys, (hds l).len with
        | [v], _ =>
        have ep : pW (n + 1) R = some (.tup [.str (oAt R 0), d, d'], r') := by rw [pW_two c5, e0]; simp only [e1]
        refine yes ep rfl (s17.trans s8) (fun hd => ?_) hp8
        cases hds hd with
        | cons a _ => exact a
theorem okr_wf (T : Txt K mg t w) : ∀ n : Nat, FnOk P w K mg base CX0 (9 + n) t.f_l_wish_from t.d_l_wish_from ["_law_words", "_law_at", "_law_deep"] (sp_l_wish_from n)
  | 0 => (okA_wf T (k := 8) (spP := spNo) ((T.l_wish_from.F.okNo sc_l_wish_from).mono (by decide : 1 ≤ 8)) (by decide) (fun m e => by cases e)).mono (by decide)
  | n + 1 => (okA_wf T (k := 9 + n) (okr_wf T n) (by omega) (fun m e => by cases e; rfl)).mono (by omega)
theorem ok_l_wish_from (T : Txt K mg t w) : FnOk P w K mg base CX0 16 t.f_l_wish_from t.d_l_wish_from ["_law_words", "_law_at", "_law_deep"] (sp_l_wish_from 6) := (okr_wf T 6).mono (by decide)
def sp_l_due : Sp := fun vs H Q E => ∃ d x, vs = [.int d, x] ∧ LdSp (rDo d) [x] H Q E
theorem LdSp.imp {r : Str → Option D} {vs : List V} {H : Hp} {Q Q' : VK} {E E' : XK} (h : LdSp r vs H Q E) (q : ∀ v H', Q v H' → Q' v H') : LdSp r vs H Q' E' := by
  obtain ⟨s, rfl, tx, k⟩ := h
  exact ⟨s, rfl, tx, fun p ys H' n l d => q _ _ (k p ys H' n l d)⟩
theorem sc_l_due : FnScope ["_law_door", "_law_text_here", "_law_words", "_law_found"] ["_law_door", "_law_text_here"] (defScope s_l_due) := ⟨rfl, rfl, rfl, by decide +kernel, rfl, by decide +kernel, by decide +kernel⟩
theorem ok_l_due (T : Txt K mg t w) : FnOk P w K mg base CX0 17 t.f_l_due t.d_l_due ["_law_door", "_law_text_here"] sp_l_due := by
  refine T.l_due.F.ok (k := 16) sc_l_due (fun vs H Q E h => ?_) (fun cdv A outer s H vs Q E hr h => ?_)
  · obtain ⟨d, x, rfl, _⟩ := h
    rfl
  · obtain ⟨d, x, rfl, h⟩ := h
    refine ⟨_, (@pss_cons _ _ _ _ _ (@ps_if _ _ _ _ _ _ _ _ (@pt_cmpR _ _ _ _ _ _ _ _ op_eq (pv 0) (@pe_int _ _ _ _) (nomark _)) (@pss_one _ _ _ (@ps_ret _ _ _ _ (@pe_fn _ _ _ _ _ _ _ _ _ _ _ _ _ _ T.l_fraction_by (ok_l_fraction_by T) hr (by decide) (@pa_cons _ _ _ _ _ (pv 1) (@pa_nil _) star_name) (by rfl) (by decide) (by rfl) (by rfl)))) (@pss_nil _)) (@pss_cons _ _ _ _ _ (@ps_if _ _ _ _ _ _ _ _ (@pt_cmpR _ _ _ _ _ _ _ _ op_eq (pv 0) (@pe_int _ _ _ _) (nomark _)) (@pss_one _ _ _ (@ps_ret _ _ _ _ (@pe_fn _ _ _ _ _ _ _ _ _ _ _ _ _ _ T.l_point_read (ok_l_point_read T) hr (by decide) (@pa_cons _ _ _ _ _ (pv 1) (@pa_nil _) star_name) (by rfl) (by decide) (by rfl) (by rfl)))) (@pss_nil _)) (@pss_cons _ _ _ _ _ (@ps_if _ _ _ _ _ _ _ _ (@pt_cmpR _ _ _ _ _ _ _ _ op_eq (pv 0) (@pe_int _ _ _ _) (nomark _)) (@pss_one _ _ _ (@ps_ret _ _ _ _ (@pe_fn _ _ _ _ _ _ _ _ _ _ _ _ _ _ T.l_rings_read (ok_l_rings_read T) hr (by decide) (@pa_cons _ _ _ _ _ (pv 1) (@pa_nil _) star_name) (by rfl) (by decide) (by rfl) (by rfl)))) (@pss_nil _)) (@pss_cons _ _ _ _ _ (@ps_set _ _ 2 _ _ _ _ sc_l_due.nd rfl (Or.inl rfl) (@pe_bm _ _ _ _ _ _ _ _ _ _ _ _ PySem.F.plainAttrs_str PySem.F.slot_str_split PySem.F.type_str_split mt_split (pv 1) (@pa_cons _ _ _ _ _ (@pe_str _ _ _ _) (@pa_nil _) star_con) (by rfl) (by rfl) (by rfl) (by rfl) (by rfl)) (by rfl) (by first | exact .inl rfl | exact .inr rfl | assumption)) (@pss_cons _ _ _ _ _ (@ps_set _ _ 3 _ _ _ _ sc_l_due.nd rfl (Or.inl rfl) (@pe_fn _ _ _ _ _ _ _ _ _ _ _ _ _ _ T.l_wish_from (ok_l_wish_from T) hr (by decide) (@pa_cons _ _ _ _ _ (pv 2) (@pa_cons _ _ _ _ _ (@pe_int _ _ _ _) (@pa_cons _ _ _ _ _ (@pe_int _ _ _ _) (@pa_nil _) star_con) star_con) star_name) (by rfl) (by decide) (by rfl) (by rfl)) (by rfl) (by first | exact .inl rfl | exact .inr rfl | assumption)) (@pss_cons _ _ _ _ _ (@ps_if _ _ _ _ _ _ _ _ (PW.pt (@pw_or _ _ _ _ _ _ _ (@pt_cmpR _ _ _ _ _ _ _ _ (op_eqNil hr.units) (pv 3) (@pe_lst _ _ _ _ (@pa_nil _)) (nomark _)) (@pw_or1 _ _ _ _ (@pt_cmpR _ _ _ _ _ _ _ _ op_ne (@pe_ix _ _ _ _ _ _ _ ix_list (pv 3) (@pe_int _ _ _ _) (fun _ _ => rfl)) (@pe_callB _ _ _ _ _ _ _ _ _ call_len_seq (by rfl) T.b_len PySem.boot_len (@pa_cons _ _ _ _ _ (pv 2) (@pa_nil _) star_name) (by decide) (by decide) (by rfl) (by rfl)) (nomark _))))) (@pss_one _ _ _ (@ps_ret _ _ _ _ (@pe_lst _ _ _ _ (@pa_nil _)))) (@pss_nil _)) (@pss_one _ _ _ (@ps_ret _ _ _ _ (@pe_slice _ _ _ _ _ _ _ _ _ _ sl_list (pv 3) (@po_none _) (@po_some _ _ _ (@pe_int _ _ _ _))))))))))), ?_⟩
    refine st_ifN (pt_t (pu_eqI (pu_v rfl) pu_c)) (fun e => ?_) (fun e0 => ?_)
    · have e : d = 0 := of_decide_eq_true e
      have er : rDo d = fun s => (rF s).map dF := by funext s; unfold rDo; rw [if_pos e]
      rw [er] at h
      exact st_retG (R := Q) (gv_call (sp := sp_l_fraction_by) (pa_c (pu_v rfl) pa_n) fun Q q => h.imp q) fun _ _ z => z
    have e0 : ¬ d = 0 := of_decide_eq_false e0
    refine st_ifN (pt_t (pu_eqI (pu_v rfl) pu_c)) (fun e => ?_) (fun e1 => ?_)
    · have e : d = 1 := of_decide_eq_true e
      have er : rDo d = fun s => (rP s).map dPt := by funext s; unfold rDo; rw [if_neg e0, if_pos e]
      rw [er] at h
      exact st_retG (R := Q) (gv_call (sp := sp_l_point_read) (pa_c (pu_v rfl) pa_n) fun Q q => h.imp q) fun _ _ z => z
    have e1 : ¬ d = 1 := of_decide_eq_false e1
    refine st_ifN (pt_t (pu_eqI (pu_v rfl) pu_c)) (fun e => ?_) (fun e2 => ?_)
    · have e : d = 2 := of_decide_eq_true e
      have er : rDo d = fun s => (rRs s).map dRgs := by funext s; unfold rDo; rw [if_neg e0, if_neg e1, if_pos e]
      rw [er] at h
      exact st_retG (R := Q) (gv_call (sp := sp_l_rings_read) (pa_c (pu_v rfl) pa_n) fun Q q => h.imp q) fun _ _ z => z
    have e2 : ¬ d = 2 := of_decide_eq_false e2
    have er : rDo d = rWi := by funext s; unfold rDo; rw [if_neg e0, if_neg e1, if_neg e2]
    rw [er] at h
    obtain ⟨s, e, tx, k⟩ := h
    have ex : x = .str s := by simpa using e
    subst ex
    have l1 := tx.2
    have l2 := split_count (x := s) (y := Str.ofString " ") (one_len _ (by simp))
    have tok : ∀ q ∈ Txt.split s (Str.ofString " "), TxOk q := fun q hq => split_ok tx hq
    have rw' : rWi s = match pW 6 (Txt.split s (Str.ofString " ")) with
      | some (d, []) => some d
      | _ => none := rfl
    refine st_setG (gv_spl (pu_v rfl) pu_c tx (one_len _ (by simp))) ?_
    rintro _ _ ⟨p, hp, rfl, rfl⟩
    have s0 : Same H (upd H p (.lst ((Txt.split s (Str.ofString " ")).map V.str))) := Same.upd hp
    have hpl : (upd H p (.lst ((Txt.split s (Str.ofString " ")).map V.str))) p = some (.lst ((Txt.split s (Str.ofString " ")).map V.str)) := upd_same
    revert s0 hpl tok l2 rw'
    generalize upd H p (.lst ((Txt.split s (Str.ofString " ")).map V.str)) = H1
    generalize Txt.split s (Str.ofString " ") = ws
    intro l2 tok rw' s0 hpl
    have no : rWi s = none → ∀ {D : Ends} {σ : L2.St} {H' : Hp}, D.rt = Q → Same H H' → tRet (tLst tNil) D σ H' := fun e D σ H' ed s' => by
      refine st_retG gv_nil fun v H'' ⟨q, hq, e1, e2⟩ => ?_
      subst e1 e2
      rw [ed]
      exact k q [] _ ⟨same_none s' hq, s'.trans (Same.upd hq), upd_same⟩ (by rw [e]; rfl) fun hd _ => by rw [e]; exact .nil
    refine st_setG (R := fun v H' => ∃ p vs, v = .ref p ∧ NewL H1 H' p vs ∧ ((pW 6 ws = none ∧ vs = []) ∨ ∃ d r x, pW 6 ws = some (d, r) ∧ vs = [x, .int ((ws.length - r.length : Nat) : Int)] ∧ ∀ hd, DAt hd H' x d)) (gv_call (sp := sp_l_wish_from 6) (pa_c (pu_v rfl) (pa_c pu_c (pa_c pu_c pa_n))) fun Q q => ⟨p, ws, 0, rfl, hpl, tok, Nat.zero_le _, by omega, fun e p H' nw => q _ _ ⟨p, [], rfl, nw, .inl ⟨e, rfl⟩⟩, fun d r e p v H' nw nv => q _ _ ⟨p, _, rfl, nw, .inr ⟨d, r, v, e, rfl, nv⟩⟩⟩) ?_
    rintro _ H2 ⟨pf, fs, rfl, n2, hf⟩
    have s2 := s0.trans n2.2.1
    rcases hf with ⟨e0, rfl⟩ | ⟨d, r, x, e0, rfl, hx⟩
    · refine st_ifNG (R := fun b H' => b = true ∧ Same H2 H') (gt_or (gt_eqNil (pu_v rfl) n2.2.2) (fun H6 r6 => by cases r6.1) (fun H6 r6 => ⟨rfl, r6.2⟩)) (fun H6 r6 => ?_) (fun H6 r6 => by cases r6.1)
      exact no (by rw [rw', e0]) rfl (s2.trans r6.2)
    obtain ⟨pre, hpre⟩ := pW_suf 6 _ _ _ e0
    have hle : r.length ≤ ws.length := by rw [hpre, List.length_append]; omega
    refine st_ifNG (R := fun b H' => b = !decide (r = []) ∧ Same H2 H') (gt_or (gt_eqNil (pu_v rfl) n2.2.2) (fun H6 r6 => PuT.gt (pt_t (pu_neI (pu_ixL (pu_v rfl) pu_c (SqL.of (r6.2 _ _ n2.2.2)) at1) (pu_lenL (pa_c (pu_v rfl) pa_n) (SqL.of ((n2.2.1.trans r6.2) _ _ hpl))))) ⟨?_, r6.2⟩) (fun H6 r6 => by cases r6.1)) (fun H6 r6 => ?_) (fun H6 r6 => ?_)
    · rw [List.length_map]
      cases r with
      | nil => simp
      | cons a r =>
        rw [List.length_cons] at hle
        simp
        omega
    · have hne : r ≠ [] := fun z => by
        have := r6.1
        rw [decide_eq_true z] at this
        cases this
      refine no ?_ rfl (s2.trans r6.2)
      rw [rw', e0]
      cases r with
      | nil => exact absurd rfl hne
      | cons a r => rfl
    · have hne : r = [] := by
        have := r6.1.symm
        rw [Bool.not_eq_false', decide_eq_true_iff] at this
        exact this
      subst hne
      have ep : rWi s = some d := by rw [rw', e0]
      refine st_retG (gv_lTo (k := 1) (pu_v rfl) pu_c (r6.2 _ _ n2.2.2)) ?_
      rintro _ _ ⟨q, hq, rfl, rfl⟩
      have s6 := s2.trans r6.2
      refine k q [x] _ ⟨same_none s6 hq, s6.trans (Same.upd hq), upd_same⟩ (by rw [ep]; rfl) fun hd _ => ?_
      rw [ep]
      exact .cons ((hx hd).same (r6.2.trans (Same.upd hq))) .nil
theorem ok_pts : ∀ (r : List Pt3) (k : Nat), okDs (k + 1) (r.map dPt) = true
  | [], _ => rfl
  | p :: r, k => by
    rw [List.map_cons]
    simp only [okDs, Bool.and_eq_true]
    exact ⟨rfl, ok_pts r k⟩
theorem ok_rgs : ∀ (r : List (List Pt3)) (k : Nat), okDs (k + 2) (r.map dRg) = true
  | [], _ => rfl
  | p :: r, k => by
    rw [List.map_cons]
    simp only [okDs, Bool.and_eq_true]
    refine ⟨?_, ok_rgs r k⟩
    unfold dRg
    simp only [okD]
    exact ok_pts p k
theorem okD_str {k : Nat} {s : Str} (h : ∀ c ∈ s.cps.toList, c < 128) : okD k (.str s) = true := by
  have := strOk_of h
  cases k <;> exact this
theorem okD_int {k : Nat} {n : Int} : okD k (.int n) = true := by cases k <;> rfl
theorem pPart_ok {W : List Str → Option (D × List Str)} {m : Nat} (hW : ∀ ws d r, W ws = some (d, r) → okD m d = true) : ∀ {k : Kd} {ws : List Str} {d : D} {r : List Str}, pPart W k ws = some (d, r) → okD m d = true
  | .wish, ws, d, r, h => hW _ _ _ h
  | .name, [], d, r, h => by cases h
  | .number, [], d, r, h => by cases h
  | .name, w :: r', d, r, h => by
    simp only [pPart] at h
    by_cases hn : nameOk w = true
    · rw [if_pos hn] at h
      cases h
      exact okD_str (name_ascii hn)
    · rw [if_neg hn] at h
      cases h
  | .number, w :: r', d, r, h => by
    simp only [pPart] at h
    cases hn : rW w with
    | none => rw [hn] at h; cases h
    | some z =>
      rw [hn] at h
      cases h
      exact okD_int
theorem pParts_ok {W : List Str → Option (D × List Str)} {m : Nat} (hW : ∀ ws d r, W ws = some (d, r) → okD m d = true) : ∀ {ks : List Kd} {ws : List Str} {ds : List D} {r : List Str}, pParts W ks ws = some (ds, r) → okDs m ds = true
  | [], ws, ds, r, h => by
    cases h
    cases m <;> rfl
  | k :: ks, ws, ds, r, h => by
    unfold pParts at h
    cases h1 : pPart W k ws with
    | none => rw [h1] at h; cases h
    | some q =>
      obtain ⟨d, r1⟩ := q
      rw [h1] at h
      simp only at h
      cases h2 : pParts W ks r1 with
      | none => rw [h2] at h; cases h
      | some q2 =>
        obtain ⟨ds2, r2⟩ := q2
        rw [h2] at h
        cases h
        simp only [okDs, Bool.and_eq_true]
        exact ⟨pPart_ok hW h1, pParts_ok hW h2⟩
theorem pW_ok : ∀ (n m : Nat), n ≤ m → ∀ (ws : List Str) (d : D) (r : List Str), pW n ws = some (d, r) → okD m d = true
  | 0, m, _, ws, d, r, h => by cases h
  | n + 1, m, hm, [], d, r, h => by cases h
  | n + 1, m + 1, hm, w :: r0, d, r, h => by
    cases hs : shp w with
    | none => simp only [pW, hs] at h; cases h
    | some ks =>
      rw [pW_cons hs] at h
      cases h2 : pParts (pW n) ks r0 with
      | none => rw [h2] at h; cases h
      | some q2 =>
        obtain ⟨ds2, r2⟩ := q2
        rw [h2] at h
        cases h
        simp only [okD, okDs, Bool.and_eq_true]
        exact ⟨strOk_of (shp_short hs).1.1, pParts_ok (pW_ok n m (by omega)) h2⟩
theorem rDo_ok {d : Int} {s : Str} {x : D} (h : rDo d s = some x) : okD 20 x = true := by
  unfold rDo at h
  split at h
  · cases hh : rF s with
    | none => rw [hh] at h; cases h
    | some f => rw [hh] at h; cases h; rfl
  split at h
  · cases hh : rP s with
    | none => rw [hh] at h; cases h
    | some f => rw [hh] at h; cases h; rfl
  split at h
  · cases hh : rRs s with
    | none => rw [hh] at h; cases h
    | some f =>
      rw [hh] at h
      cases h
      show okD 20 (.lst (f.map dRg)) = true
      simp only [okD]
      exact ok_rgs f 17
  · unfold rWi at h
    split at h
    · rename_i d' e
      cases h
      exact pW_ok 6 20 (by decide) _ _ _ e
    · cases h
def sp_l_right : Sp := fun vs H Q _ => ∃ (d : Int) (s : Str) (hd : Addr), vs = [.int d, .str s] ∧ TxOk s ∧ H hd ≠ none ∧ ∀ H', Same H H' → Q (.bl true) H'
theorem sc_l_right : FnScope ["_law_door", "_law_text_here", "_law_due_here"] ["_law_door", "_law_text_here"] (defScope s_l_right) := ⟨rfl, rfl, rfl, by decide +kernel, rfl, by decide +kernel, by decide +kernel⟩
theorem ok_l_right (T : Txt K mg t w) : FnOk P w K mg base CX0 24 t.f_l_right t.d_l_right ["_law_door", "_law_text_here"] sp_l_right := by
  refine T.l_right.F.ok (k := 23) sc_l_right (fun vs H Q E h => ?_) (fun cdv A outer s H vs Q E hr h => ?_)
  · obtain ⟨d, s, hd, rfl, _⟩ := h
    rfl
  · obtain ⟨d, s, hd, rfl, tx, nh, k⟩ := h
    refine ⟨_, (@pss_cons _ _ _ _ _ (@ps_set _ _ 2 _ _ _ _ sc_l_right.nd rfl (Or.inl rfl) (@pe_fn _ _ _ _ _ _ _ _ _ _ _ _ _ _ T.l_due (ok_l_due T) hr (by decide) (@pa_cons _ _ _ _ _ (pv 0) (@pa_cons _ _ _ _ _ (pv 1) (@pa_nil _) star_name) star_name) (by rfl) (by decide) (by rfl) (by rfl)) (by rfl) (by first | exact .inl rfl | exact .inr rfl | assumption)) (@pss_cons _ _ _ _ _ (@ps_if _ _ _ _ _ _ _ _ (@pt_cmpR _ _ _ _ _ _ _ _ (op_eqNil hr.units) (pv 2) (@pe_lst _ _ _ _ (@pa_nil _)) (nomark _)) (@pss_one _ _ _ (@ps_ret _ _ _ _ (@pe_fn _ _ _ _ _ _ _ _ _ _ _ _ _ _ T.l_no_text (ok_l_no_text T) hr (by decide) (@pa_cons _ _ _ _ _ (pv 0) (@pa_cons _ _ _ _ _ (pv 1) (@pa_nil _) star_name) star_name) (by rfl) (by decide) (by rfl) (by rfl)))) (@pss_nil _)) (@pss_one _ _ _ (@ps_ret _ _ _ _ (@pe_cmpR _ _ _ _ _ _ _ _ (op_eqD hr.units) (@pe_fnX _ _ _ _ _ _ _ _ _ _ _ _ _ _ _ _ _ T.l_ask (okx_l_ask T) hr (by decide) passE (@pa_cons _ _ _ _ _ (pv 0) (@pa_cons _ _ _ _ _ (pv 1) (@pa_nil _) star_name) star_name) (by rfl) (by decide) (by rfl) (by rfl)) (@pe_ix _ _ _ _ _ _ _ ix_list (pv 2) (@pe_int _ _ _ _) (fun _ _ => rfl)) (nomark _)))))), ?_⟩
    refine st_setG (R := fun v H' => ∃ p ys, v = .ref p ∧ NewL H H' p ys ∧ ys.length = (rDo d s).toList.length ∧ ∀ hd, H hd ≠ none → DsAt hd H' ys (rDo d s).toList) (gv_call (sp := sp_l_due) (pa_c (pu_v rfl) (pa_c (pu_v rfl) pa_n)) fun Q q => ⟨d, _, rfl, s, rfl, tx, fun p ys H' n l d => q _ _ ⟨p, ys, rfl, n, l, d⟩⟩) ?_
    rintro _ H1 ⟨p, ys, rfl, n1, l1, d1⟩
    cases hr' : rDo d s with
    | none =>
      have e1 := ld_none hr' l1
      subst e1
      refine st_ifNG (R := fun b H' => b = true ∧ Same H1 H') ((gt_eqNil (pu_v rfl) n1.2.2).imp fun b H' r => r) (fun H8 r8 => ?_) (fun H8 r8 => by cases r8.1)
      exact st_retG (R := fun v H' => v = .bl true ∧ Same H8 H') (gv_call (sp := sp_l_no_text) (pa_c (pu_v rfl) (pa_c (pu_v rfl) pa_n)) fun Q q => ⟨d, _, rfl, .inl ⟨s, rfl, tx, hr'⟩, fun H' s' => q _ _ ⟨rfl, s'⟩⟩) fun v H' ⟨e, s'⟩ => by
        subst e
        exact k _ (n1.2.1.trans (r8.2.trans s'))
    | some x =>
    obtain ⟨v, rfl⟩ := ld_some hr' l1
    have dv := ds_one hr' (d1 hd nh)
    refine st_ifNG (R := fun b H' => b = false ∧ Same H1 H') ((gt_eqNil (pu_v rfl) n1.2.2).imp fun b H' r => r) (fun H8 r8 => by cases r8.1) (fun H8 r8 => ?_)
    have hp8 := r8.2 _ _ n1.2.2
    refine st_retG (R := fun v H' => v = .bl true ∧ Same H H') (gv_opG' (R1 := fun v' H' => Same H8 H' ∧ DAt p H' v' x) (R2 := fun v' y H' => Same H8 H' ∧ DAt p H' v' x ∧ y = v) (gv_call (sp := spx_l_ask t) (E := E0) (pa_c (pu_v rfl) (pa_c (pu_v rfl) pa_n)) fun Q q => ⟨d, _, rfl, .inl ⟨s, rfl, tx, (fun x' e v' H' s' nw => by rw [hr'] at e; cases e; exact q _ _ ⟨s', nw p (some_ne hp8)⟩), fun e => by rw [hr'] at e; cases e⟩⟩) (fun v' H9 r9 => ?_) ?_) fun v H' ⟨e, s'⟩ => by
        subst e
        exact k _ s'
    · exact Pu.gv' (pu_ixL (pu_v rfl) pu_c (SqL.of (r9.1 _ _ hp8)) at0) ⟨r9.1, r9.2, rfl⟩
    · rintro v' _ H9 ⟨s9, dx, rfl⟩ Q q
      exact ⟨p, hd, x, dx, dv.same (r8.2.trans s9), rDo_ok hr', q _ _ ⟨rfl, n1.2.1.trans (r8.2.trans s9)⟩⟩
def DE (hd : Addr) (σ : L2.St) (H0 : Hp) (te : TE) (d : D) : Prop := ∀ H', Same H0 H' → Gv te σ H' (fun v H2 => Same H' H2 ∧ DAt hd H2 v d)
def DA (hd : Addr) (σ : L2.St) (H0 : Hp) (ta : TA) (ds : List D) : Prop := ∀ H', Same H0 H' → GvA ta σ H' (fun vs H2 => Same H' H2 ∧ DsAt hd H2 vs ds)
section
variable {hd : Addr} {σ : L2.St} {H0 : Hp} {te te' : TE} {ta : TA} {d : D} {ds ds' : List D}
theorem de_s {x : Str} (h : (∀ c ∈ x.cps.toList, c < 128) ∧ x.length ≤ 1000) : DE hd σ H0 (tC (.str x)) (.str x) := fun H' s => Pu.gv' pu_c ⟨Same.rfl', .str x h⟩
theorem de_i {n : Int} : DE hd σ H0 (tC (.int n)) (.int n) := fun H' s => Pu.gv' pu_c ⟨Same.rfl', .int n⟩
theorem de_n : DE hd σ H0 (tC .non) .non := fun H' s => Pu.gv' pu_c ⟨Same.rfl', .non⟩
theorem de_b {b : Bool} : DE hd σ H0 (tC (.bl b)) (.bl b) := fun H' s => Pu.gv' pu_c ⟨Same.rfl', .bl b⟩
theorem da_n : DA hd σ H0 tNil [] := fun H' s Q q => q _ _ ⟨Same.rfl', .nil⟩
theorem da_c (h : DE hd σ H0 te d) (t : DA hd σ H0 ta ds) : DA hd σ H0 (tCons te ta) (d :: ds) := fun H' s Q q => h H' s _ fun v H1 r => t H1 (s.trans r.1) _ fun vs H2 r' => q _ _ ⟨r.1.trans r'.1, .cons (r.2.same r'.1) r'.2⟩
theorem de_tup (h : DA hd σ H0 ta ds) (hz : ds.length ≤ 1000 := by decide) : DE hd σ H0 (tTup ta) (.tup ds) := fun H' s => gv_tupA (h H' s) fun vs H1 r => ⟨by rw [r.2.len]; exact Nat.le_trans hz (by decide), fun p hp => ⟨r.1.trans (Same.upd hp), .tup upd_same (r.2.same (Same.upd hp))⟩⟩
theorem de_lst {o : HO} (ho : H0 hd = some o) (h : DA hd σ H0 ta ds) (hz : ds.length ≤ 1000 := by decide) : DE hd σ H0 (tLst ta) (.lst ds) := fun H' s => gv_lstA (h H' s) fun vs H1 r => ⟨by rw [r.2.len]; exact Nat.le_trans hz (by decide), fun p hp => ⟨r.1.trans (Same.upd hp), .lst upd_same (Ne.symm (ne_of_none (r.1 _ _ (s _ _ ho)) hp)) (r.2.same (Same.upd hp))⟩⟩
end
def sp_law (K : PySem.W.Frag) : Sp := fun vs H Q _ => ∃ (a : Addr) (ns : List Int), vs = [.ref a] ∧ SqL K H a (ns.map V.int) ∧ ns.length ≤ 63 ∧ ∀ H', Q (.bl true) H'
def noTexts : List D := [.non, .int 7, .bl true, .lst [.str (Str.ofString "1")], .tup [.str (Str.ofString "in"), .str (Str.ofString "a")], .lst [.lst [.tup [.int 0, .int 0, .int 1]]], .tup [.int 1, .int 2]]
theorem no_texts : ∀ d ∈ noTexts, d.isStr = false := by
  intro d hd
  simp only [noTexts, List.mem_cons, List.not_mem_nil, or_false] at hd
  rcases hd with rfl | rfl | rfl | rfl | rfl | rfl | rfl <;> rfl
theorem gv_right {σ : L2.St} {H : Hp} {hd sc : Addr} {t : TA} {RA : List V → Hp → Prop} {s : Str} (ts : TxOk s) (ha : GvA t σ H RA) (hr : ∀ vs H', RA vs H' → ∃ d : Int, vs = [.int d, .str s] ∧ HandAt H' hd sc) : Gv (tCall sp_l_right [] E0 t) σ H (fun v H' => v = .bl true ∧ HandAt H' hd sc) := by
  refine gv_callA ha ?_
  intro vs H1 r Q q
  obtain ⟨d, rfl, hh1⟩ := hr vs H1 r
  obtain ⟨ys, hy⟩ := hh1.ls
  exact ⟨d, s, hd, rfl, ts, some_ne hy, fun H' s' => q _ _ ⟨rfl, hh1.same s'⟩⟩
theorem sc_law : FnScope ["_law_script", "_law_hand_here", "_law_k", "_law_door", "_law_good_here", "_law_text_here", "_law_j", "_law_some"] ["_law_script"] (defScope s_law) := ⟨rfl, rfl, rfl, by decide +kernel, rfl, by decide +kernel, by decide +kernel⟩
theorem ok_law (T : Txt K mg t w) : FnOk P w K mg base CX0 25 t.f_law t.d_law ["_law_script"] (sp_law K) := by
  refine T.law.F.ok (k := 24) sc_law (fun vs H Q E h => ?_) (fun cdv A outer s H vs Q E hr h => ?_)
  · obtain ⟨a, ns, rfl, _⟩ := h
    rfl
  · obtain ⟨sa, ns, rfl, hS, hlen, k⟩ := h
    refine ⟨_, (@pss_cons _ _ _ _ _ (@ps_set _ _ 1 _ _ _ _ sc_law.nd rfl (Or.inl rfl) (@pe_fn _ _ _ _ _ _ _ _ _ _ _ _ _ _ T.l_hand (ok_l_hand T) hr (by decide) (@pa_cons _ _ _ _ _ (pv 0) (@pa_nil _) star_name) (by rfl) (by decide) (by rfl) (by rfl)) (by rfl) (by first | exact .inl rfl | exact .inr rfl | assumption)) (@pss_cons _ _ _ _ _ (@ps_for _ _ _ _ _ _ _ _ PassesOwn.never rfl (@pi_range1 _ _ _ _ _ _ rfl T.b_range (@pa_cons _ _ _ _ _ (@pe_op _ _ _ _ _ _ _ _ op_add (@pe_int _ _ _ _) (@pe_fn _ _ _ _ _ _ _ _ _ _ _ _ _ _ T.l_draw (ok_l_draw T) hr (by decide) (@pa_cons _ _ _ _ _ (pv 1) (@pa_cons _ _ _ _ _ (@pe_int _ _ _ _) (@pa_nil _) star_con) star_name) (by rfl) (by decide) (by rfl) (by rfl))) (@pa_nil _) star_bin) (by rfl)) (@pg_name _ _ 2 _ sc_law.nd rfl (Or.inl rfl) (by first | exact .inl rfl | exact .inr rfl | assumption)) (@pss_cons _ _ _ _ _ (@ps_set _ _ 3 _ _ _ _ sc_law.nd rfl (Or.inl rfl) (@pe_fn _ _ _ _ _ _ _ _ _ _ _ _ _ _ T.l_draw (ok_l_draw T) hr (by decide) (@pa_cons _ _ _ _ _ (pv 1) (@pa_cons _ _ _ _ _ (@pe_int _ _ _ _) (@pa_nil _) star_con) star_name) (by rfl) (by decide) (by rfl) (by rfl)) (by rfl) (by first | exact .inl rfl | exact .inr rfl | assumption)) (@pss_cons _ _ _ _ _ (@ps_set _ _ 4 _ _ _ _ sc_law.nd rfl (Or.inl rfl) (@pe_fn _ _ _ _ _ _ _ _ _ _ _ _ _ _ T.l_good (ok_l_good T) hr (by decide) (@pa_cons _ _ _ _ _ (pv 1) (@pa_cons _ _ _ _ _ (pv 3) (@pa_nil _) star_name) star_name) (by rfl) (by decide) (by rfl) (by rfl)) (by rfl) (by first | exact .inl rfl | exact .inr rfl | assumption)) (@pss_cons _ _ _ _ _ (@ps_set _ _ 5 _ _ _ _ sc_law.nd rfl (Or.inl rfl) (pv 4) (by rfl) (by first | exact .inl rfl | exact .inr rfl | assumption)) (@pss_cons _ _ _ _ _ (@ps_for _ _ _ _ _ _ _ _ PassesOwn.never rfl (@pi_range1 _ _ _ _ _ _ rfl T.b_range (@pa_cons _ _ _ _ _ (@pe_fn _ _ _ _ _ _ _ _ _ _ _ _ _ _ T.l_draw (ok_l_draw T) hr (by decide) (@pa_cons _ _ _ _ _ (pv 1) (@pa_cons _ _ _ _ _ (@pe_int _ _ _ _) (@pa_nil _) star_con) star_name) (by rfl) (by decide) (by rfl) (by rfl)) (@pa_nil _) star_call) (by rfl)) (@pg_name _ _ 6 _ sc_law.nd rfl (Or.inl rfl) (by first | exact .inl rfl | exact .inr rfl | assumption)) (@pss_one _ _ _ (@ps_set _ _ 5 _ _ _ _ sc_law.nd rfl (Or.inl rfl) (@pe_fn _ _ _ _ _ _ _ _ _ _ _ _ _ _ T.l_spoilt (ok_l_spoilt T) hr (by decide) (@pa_cons _ _ _ _ _ (pv 1) (@pa_cons _ _ _ _ _ (pv 5) (@pa_nil _) star_name) star_name) (by rfl) (by decide) (by rfl) (by rfl)) (by rfl) (by first | exact .inl rfl | exact .inr rfl | assumption))) (by intro _; rfl)) (@pss_one _ _ _ (@ps_if _ _ _ _ _ _ _ _ (PW.pt (@pw_or _ _ _ _ _ _ _ (@pt_not _ _ _ _ (@pt_val _ _ _ (@pe_fn _ _ _ _ _ _ _ _ _ _ _ _ _ _ T.l_right (ok_l_right T) hr (by decide) (@pa_cons _ _ _ _ _ (pv 3) (@pa_cons _ _ _ _ _ (pv 5) (@pa_nil _) star_name) star_name) (by rfl) (by decide) (by rfl) (by rfl)) (by intro _; rfl))) (@pw_or _ _ _ _ _ _ _ (@pt_not _ _ _ _ (@pt_val _ _ _ (@pe_fn _ _ _ _ _ _ _ _ _ _ _ _ _ _ T.l_right (ok_l_right T) hr (by decide) (@pa_cons _ _ _ _ _ (@pe_fn _ _ _ _ _ _ _ _ _ _ _ _ _ _ T.l_draw (ok_l_draw T) hr (by decide) (@pa_cons _ _ _ _ _ (pv 1) (@pa_cons _ _ _ _ _ (@pe_int _ _ _ _) (@pa_nil _) star_con) star_name) (by rfl) (by decide) (by rfl) (by rfl)) (@pa_cons _ _ _ _ _ (pv 5) (@pa_nil _) star_name) star_call) (by rfl) (by decide) (by rfl) (by rfl)) (by intro _; rfl))) (@pw_or1 _ _ _ _ (@pt_not _ _ _ _ (@pt_val _ _ _ (@pe_fn _ _ _ _ _ _ _ _ _ _ _ _ _ _ T.l_right (ok_l_right T) hr (by decide) (@pa_cons _ _ _ _ _ (pv 3) (@pa_cons _ _ _ _ _ (pv 4) (@pa_nil _) star_name) star_name) (by rfl) (by decide) (by rfl) (by rfl)) (by intro _; rfl))))))) (@pss_one _ _ _ (@ps_ret _ _ _ _ (@pe_bl _ _ _ _))) (@pss_nil _))))))) (by intro _; rfl)) (@pss_cons _ _ _ _ _ (@ps_set _ _ 7 _ _ _ _ sc_law.nd rfl (Or.inl rfl) (@pe_lst _ _ _ _ (@pa_cons _ _ _ _ _ (@pe_non _ _ _) (@pa_cons _ _ _ _ _ (@pe_int _ _ _ _) (@pa_cons _ _ _ _ _ (@pe_bl _ _ _ _) (@pa_cons _ _ _ _ _ (@pe_lst _ _ _ _ (@pa_cons _ _ _ _ _ (@pe_str _ _ _ _) (@pa_nil _) star_con)) (@pa_cons _ _ _ _ _ (@pe_tup _ _ _ _ _ (@pa_cons _ _ _ _ _ (@pe_str _ _ _ _) (@pa_cons _ _ _ _ _ (@pe_str _ _ _ _) (@pa_nil _) star_con) star_con)) (@pa_cons _ _ _ _ _ (@pe_lst _ _ _ _ (@pa_cons _ _ _ _ _ (@pe_lst _ _ _ _ (@pa_cons _ _ _ _ _ (@pe_tup _ _ _ _ _ (@pa_cons _ _ _ _ _ (@pe_int _ _ _ _) (@pa_cons _ _ _ _ _ (@pe_int _ _ _ _) (@pa_cons _ _ _ _ _ (@pe_int _ _ _ _) (@pa_nil _) star_con) star_con) star_con)) (@pa_nil _) star_tup)) (@pa_nil _) star_lst)) (@pa_cons _ _ _ _ _ (@pe_tup _ _ _ _ _ (@pa_cons _ _ _ _ _ (@pe_int _ _ _ _) (@pa_cons _ _ _ _ _ (@pe_int _ _ _ _) (@pa_nil _) star_con) star_con)) (@pa_nil _) star_tup) star_lst) star_tup) star_lst) star_con) star_con) star_con)) (by rfl) (by first | exact .inl rfl | exact .inr rfl | assumption)) (@pss_cons _ _ _ _ _ (@ps_for _ _ _ _ _ _ _ _ PassesOwn.never rfl (@pi_range1 _ _ _ _ _ _ rfl T.b_range (@pa_cons _ _ _ _ _ (@pe_int _ _ _ _) (@pa_nil _) star_con) (by rfl)) (@pg_name _ _ 3 _ sc_law.nd rfl (Or.inl rfl) (by first | exact .inl rfl | exact .inr rfl | assumption)) (@pss_one _ _ _ (@ps_if _ _ _ _ _ _ _ _ (@pt_not _ _ _ _ (@pt_val _ _ _ (@pe_fn _ _ _ _ _ _ _ _ _ _ _ _ _ _ T.l_no_text (ok_l_no_text T) hr (by decide) (@pa_cons _ _ _ _ _ (pv 3) (@pa_cons _ _ _ _ _ (@pe_ix _ _ _ _ _ _ _ ix_list (pv 7) (@pe_fn _ _ _ _ _ _ _ _ _ _ _ _ _ _ T.l_draw (ok_l_draw T) hr (by decide) (@pa_cons _ _ _ _ _ (pv 1) (@pa_cons _ _ _ _ _ (@pe_int _ _ _ _) (@pa_nil _) star_con) star_name) (by rfl) (by decide) (by rfl) (by rfl)) (fun _ _ => rfl)) (@pa_nil _) star_sub) star_name) (by rfl) (by decide) (by rfl) (by rfl)) (by intro _; rfl))) (@pss_one _ _ _ (@ps_ret _ _ _ _ (@pe_bl _ _ _ _))) (@pss_nil _))) (by intro _; rfl)) (@pss_one _ _ _ (@ps_ret _ _ _ _ (@pe_bl _ _ _ _))))))), ?_⟩
    refine st_setG (gv_call (R := fun v H' => ∃ hd sc, v = .ref hd ∧ HandAt H' hd sc) (pa_c (pu_v rfl) pa_n) fun Q f => ⟨sa, ns, rfl, hS, fun hd sc H' s n hh => f _ _ ⟨hd, sc, rfl, hh⟩⟩) ?_
    rintro _ H1 ⟨hd, sc, rfl, hh1⟩
    refine st_rangeG (ga_cons (gv_draw1 (m := 6) hh1 (pa_c (pu_v rfl) (pa_c pu_c pa_n)) (by decide) Bd.small) fun _ _ _ => ga_nil) ?_
    rintro vs H2 ⟨_, _, r, rfl, ⟨⟨n, rfl, n0, n1⟩, hh2, _⟩, rfl, rfl⟩
    refine ⟨n, rfl, by omega, by omega, fun i σ H' => HandAt H' hd sc ∧ ∃ c d e f g h : Option V, σ = [some (.ref sa), some (.ref hd), c, d, e, f, g, h], ⟨hh2, _, _, _, _, _, _, rfl⟩, ?_, ?_⟩
    · rintro i σ H3 hi ⟨hh3, c, d, e, f, g, h, rfl⟩
      refine st_setG (gv_draw hh3 (pa_c (pu_v rfl) (pa_c pu_c pa_n)) (by decide) Bd.small) ?_
      rintro _ H4 ⟨⟨dr, rfl, _, _⟩, hh4, _⟩
      refine st_setG (R := fun v H' => ∃ s, v = .str s ∧ TxL 12012 s ∧ HandAt H' hd sc) (gv_call (sp := sp_l_good) (pa_c (pu_v rfl) (pa_c (pu_v rfl) pa_n)) fun Q q => ⟨hd, sc, dr, rfl, hh4, fun s H' a b c => q _ _ ⟨s, rfl, a, b⟩⟩) ?_
      rintro _ H5 ⟨gd, rfl, tg, hh5⟩
      refine st_set (pu_v rfl) ?_
      refine st_rangeG (ga_cons (gv_draw hh5 (pa_c (pu_v rfl) (pa_c pu_c pa_n)) (by decide) Bd.small) fun _ _ _ => ga_nil) ?_
      rintro _ H6 ⟨_, _, r, rfl, ⟨⟨m, rfl, m0, m1⟩, hh6, _⟩, rfl, rfl⟩
      refine ⟨m, rfl, by omega, by omega, fun j σ H' => HandAt H' hd sc ∧ ∃ (s : Str) (b : Nat) (z : Option V), TxL b s ∧ (j = 0 → b ≤ 12012) ∧ (j = 1 → b ≤ 24054) ∧ b ≤ 48138 ∧ σ = [some (.ref sa), some (.ref hd), some (.int (0 + (i : Int))), some (.int dr), some (.str gd), some (.str s), z, h], ⟨hh6, gd, 12012, _, tg, (fun _ => Nat.le_refl _), (fun e => by cases e), by decide, rfl⟩, ?_, ?_⟩
      · rintro j σ H7 hj ⟨hh7, s, b, z, ts, b0, b1, b2, rfl⟩
        have hj2 : j = 0 ∨ j = 1 := by omega
        have bl : b ≤ 24054 := by
          rcases hj2 with e | e
          · exact Nat.le_trans (b0 e) (by decide)
          · exact b1 e
        refine st_setG1 (R := fun v H' => ∃ s', v = .str s' ∧ TxL (2 * b + 30) s' ∧ HandAt H' hd sc) (gv_call (sp := sp_l_spoilt) (pa_c (pu_v rfl) (pa_c (pu_v rfl) pa_n)) fun Q q => ⟨hd, sc, s, b, rfl, hh7, ts, by omega, fun s' H' a c d => q _ _ ⟨s', rfl, a, c⟩⟩) ?_
        rintro _ H8 ⟨s', rfl, ts', hh8⟩
        exact ⟨hh8, s', _, _, ts', (fun e => by omega), (fun e => by have := b0 (by omega); omega), by omega, rfl⟩
      · rintro σ H7 ⟨hh7, s, b, z, ts, _, _, b2, rfl⟩
        have tk : TxOk s := ⟨ts.1, Nat.le_trans ts.2 (by omega)⟩
        have tkg : TxOk gd := ⟨tg.1, Nat.le_trans tg.2 (by decide)⟩
        refine st_ifNG1 (R := fun b H' => b = false ∧ HandAt H' hd sc) (gt_or (gt_nt (gv_right (hd := hd) (sc := sc) tk (ga_cons (Pu.gv (v := .int dr) (pu_v rfl)) (fun _ _ _ => ga_cons (Pu.gv (v := .str s) (pu_v rfl)) fun _ _ _ => ga_nil)) ?_)) (fun H8 e => gt_or (R := fun b H' => b = false ∧ HandAt H' hd sc) (gt_nt (gv_right (hd := hd) (sc := sc) tk (ga_cons (gv_draw e.2 (pa_c (pu_v rfl) (pa_c pu_c pa_n)) (by decide) Bd.small) (fun _ _ _ => ga_cons (Pu.gv (v := .str s) (pu_v rfl)) fun _ _ _ => ga_nil)) ?_)) (fun H9 e9 => gt_nt (gv_right (hd := hd) (sc := sc) tkg (ga_cons (Pu.gv (v := .int dr) (pu_v rfl)) (fun _ _ _ => ga_cons (Pu.gv (v := .str gd) (pu_v rfl)) fun _ _ _ => ga_nil)) ?_)) (fun _ z => by cases z.1)) (fun _ z => by cases z.1)) (fun _ z => by cases z.1) ?_
        · rintro _ H9 ⟨_, _, _, rfl, ⟨rfl, rfl⟩, _, _, _, rfl, ⟨rfl, rfl⟩, rfl, rfl⟩
          exact ⟨dr, rfl, hh7⟩
        · rintro _ H9 ⟨_, _, _, rfl, ⟨⟨d', rfl, _, _⟩, hh', s'⟩, _, _, _, rfl, ⟨rfl, rfl⟩, rfl, rfl⟩
          exact ⟨d', rfl, hh'⟩
        · rintro _ H10 ⟨_, _, _, rfl, ⟨rfl, rfl⟩, _, _, _, rfl, ⟨rfl, rfl⟩, rfl, rfl⟩
          exact ⟨dr, rfl, e9.2⟩
        · rintro H8 ⟨_, hh8⟩
          exact ⟨hh8, _, _, _, _, _, _, rfl⟩
    · rintro σ H3 ⟨hh3, c, d, e, f, g, h, rfl⟩
      obtain ⟨yh, hyh⟩ := hh3.ls
      refine st_setG ((de_lst (hd := hd) (ds := noTexts) hyh (da_c de_n (da_c de_i (da_c de_b (da_c (de_lst hyh (da_c (de_s (by decide +kernel)) da_n)) (da_c (de_tup (da_c (de_s (by decide +kernel)) (da_c (de_s (by decide +kernel)) da_n))) (da_c (de_lst hyh (da_c (de_lst hyh (da_c (de_tup (da_c de_i (da_c de_i (da_c de_i da_n)))) da_n)) da_n)) (da_c (de_tup (da_c de_i (da_c de_i da_n))) da_n)))))))) H3 Same.rfl') ?_
      rintro v H4 ⟨s4, hv⟩
      have hh4 := hh3.same s4
      cases hv with
      | @lst a vs ds ha na td =>
      refine st_range (n := 4) (pa_c pu_c pa_n) (by decide) (by decide) (fun i σ H' => HandAt H' hd sc ∧ H' a = some (.lst vs) ∧ DsAt hd H' vs noTexts ∧ ∃ c d e f g : Option V, σ = [some (.ref sa), some (.ref hd), c, d, e, f, g, some (.ref a)]) ⟨hh4, ha, td, _, _, _, _, _, rfl⟩ ?_ ?_
      · rintro i σ H5 hi ⟨hh5, ha5, td5, c, d, e, f, g, rfl⟩
        obtain ⟨y5, hy5⟩ := hh5.ls
        refine st_ifNG1 (R := fun b H' => b = false ∧ HandAt H' hd sc ∧ H' a = some (.lst vs) ∧ DsAt hd H' vs noTexts) (gt_nt (gv_callA (ga_cons (Pu.gv (v := .int (0 + (i : Int))) (pu_v rfl)) fun _ _ e1 => ga_cons (R1 := fun x H' => (∃ d ∈ noTexts, DAt hd H' x d) ∧ HandAt H' hd sc ∧ H' a = some (.lst vs) ∧ DsAt hd H' vs noTexts) (gv_opG' (R1 := fun v H' => v = .ref a ∧ H5 = H') (R2 := fun x v H' => x = .ref a ∧ (∃ k : Int, v = .int k ∧ 0 ≤ k ∧ k < 7) ∧ HandAt H' hd sc ∧ SameB hd H5 H') (by obtain ⟨_, rfl⟩ := e1; exact Pu.gv' (pu_v rfl) ⟨rfl, rfl⟩) ?_ ?_) fun _ _ _ => ga_nil) ?_)) (fun _ z => by cases z.1) ?_
        · rintro _ _ ⟨rfl, rfl⟩
          exact (gv_draw hh5 (pa_c (pu_v rfl) (pa_c pu_c pa_n)) (by decide) Bd.small).imp fun v H' r => ⟨rfl, r⟩
        · rintro _ _ H6 ⟨rfl, ⟨m, rfl, m0, m1⟩, hh6, s6⟩ Q q
          have ha6 := s6 _ _ ha5 na
          have td6 : DsAt hd H6 vs noTexts := DsAt.but hy5 s6 td5
          have hvl : vs.length = 7 := td6.len
          have hx : vs[m.toNat]? = some (vs[m.toNat]'(by omega)) := List.getElem?_eq_getElem (by omega)
          obtain ⟨d', hd', hx'⟩ := td6.get hx
          have hat : atI vs m = some (vs[m.toNat]'(by omega)) := by
            have := atI_nat (xs := vs) (j := m.toNat) hx
            rwa [show ((m.toNat : Nat) : Int) = m by omega] at this
          exact ⟨a, vs, m, _, rfl, rfl, SqL.of ha6, hat, q _ _ ⟨⟨d', List.mem_of_getElem? hd', hx'⟩, hh6, ha6, td6⟩⟩
        · rintro _ H6 ⟨_, _, _, rfl, ⟨rfl, rfl⟩, x, _, _, rfl, ⟨⟨d', hd', hx'⟩, hh6, ha6, td6⟩, rfl, rfl⟩ Q q
          exact ⟨_, x, rfl, .inr ⟨hd, d', hx', no_texts d' hd'⟩, fun H' s' => q _ _ ⟨rfl, hh6.same s', s' _ _ ha6, td6.same s'⟩⟩
        · rintro H6 ⟨_, hh6, ha6, td6⟩
          exact ⟨hh6, ha6, td6, _, _, _, _, _, rfl⟩
      · rintro σ H5 ⟨hh5, ha5, td5, c, d, e, f, g, rfl⟩
        exact st_ret pu_c (k _)
end
theorem all_mk {l : PySem.W.OpenLaw} {w : World} {K : PySem.W.Frag} {h : Heap} {mg : Str → Option Value} {fa : Addr} (X : K.In h) (G : h.Ns mainGlobals mg) (hfa : mg "law" = some (.ref fa))
    {g0 : Addr} (u0 : PySem.W.nsIn K mainGlobals "SHAPES" = some (some (.ref g0)))
    {g1 : Addr} (u1 : PySem.W.nsIn K mainGlobals "NoText" = some (some (.ref g1)))
    {g2 : Addr} (u2 : PySem.W.nsIn K mainGlobals "PlyError" = some (some (.ref g2)))
    {g3 : Addr} (u3 : PySem.W.nsIn K mainGlobals "BadWish" = some (some (.ref g3)))
    {g4 : Addr} (u4 : PySem.W.nsIn K mainGlobals "NoNumber" = some (some (.ref g4)))
    {g5 : Addr} (u5 : PySem.W.nsIn K mainGlobals "NoPoint" = some (some (.ref g5)))
    {f0 : Addr} {od0 an0 : Option Addr} {sl0 : Array (Option Value)} {oc0 kV0 dc0 pm0 cd0 ct0 : Value}
    (a0 : PySem.W.nsIn K mainGlobals "is_name" = some (some (.ref f0))) (l0 : K.lookup f0 = some ⟨oc0, od0, .func (PySem.W.fnOf "is_name" "is_name" (defArgs s_is_name) (defBody s_is_name) (defScope s_is_name) .none kV0 dc0 pm0 an0 cd0 ct0), sl0⟩) (c0 : PySem.W.codeIn K cd0 "is_name" = true) (k0 : PySem.W.keepIn K (.ref f0) = true)
    {f1 : Addr} {od1 an1 : Option Addr} {sl1 : Array (Option Value)} {oc1 kV1 dc1 pm1 cd1 ct1 : Value}
    (a1 : PySem.W.nsIn K mainGlobals "is_whole" = some (some (.ref f1))) (l1 : K.lookup f1 = some ⟨oc1, od1, .func (PySem.W.fnOf "is_whole" "is_whole" (defArgs s_is_whole) (defBody s_is_whole) (defScope s_is_whole) .none kV1 dc1 pm1 an1 cd1 ct1), sl1⟩) (c1 : PySem.W.codeIn K cd1 "is_whole" = true) (k1 : PySem.W.keepIn K (.ref f1) = true)
    {f2 : Addr} {od2 an2 : Option Addr} {sl2 : Array (Option Value)} {oc2 kV2 dc2 pm2 cd2 ct2 : Value}
    (a2 : PySem.W.nsIn K mainGlobals "divisor_of" = some (some (.ref f2))) (l2 : K.lookup f2 = some ⟨oc2, od2, .func (PySem.W.fnOf "divisor_of" "divisor_of" (defArgs s_divisor_of) (defBody s_divisor_of) (defScope s_divisor_of) .none kV2 dc2 pm2 an2 cd2 ct2), sl2⟩) (c2 : PySem.W.codeIn K cd2 "divisor_of" = true) (k2 : PySem.W.keepIn K (.ref f2) = true)
    {f3 : Addr} {od3 an3 : Option Addr} {sl3 : Array (Option Value)} {oc3 kV3 dc3 pm3 cd3 ct3 : Value}
    (a3 : PySem.W.nsIn K mainGlobals "is_fraction" = some (some (.ref f3))) (l3 : K.lookup f3 = some ⟨oc3, od3, .func (PySem.W.fnOf "is_fraction" "is_fraction" (defArgs s_is_fraction) (defBody s_is_fraction) (defScope s_is_fraction) .none kV3 dc3 pm3 an3 cd3 ct3), sl3⟩) (c3 : PySem.W.codeIn K cd3 "is_fraction" = true) (k3 : PySem.W.keepIn K (.ref f3) = true)
    {f4 : Addr} {od4 an4 : Option Addr} {sl4 : Array (Option Value)} {oc4 kV4 dc4 pm4 cd4 ct4 : Value}
    (a4 : PySem.W.nsIn K mainGlobals "point_by" = some (some (.ref f4))) (l4 : K.lookup f4 = some ⟨oc4, od4, .func (PySem.W.fnOf "point_by" "point_by" (defArgs s_point_by) (defBody s_point_by) (defScope s_point_by) .none kV4 dc4 pm4 an4 cd4 ct4), sl4⟩) (c4 : PySem.W.codeIn K cd4 "point_by" = true) (k4 : PySem.W.keepIn K (.ref f4) = true)
    {f5 : Addr} {od5 an5 : Option Addr} {sl5 : Array (Option Value)} {oc5 kV5 dc5 pm5 cd5 ct5 : Value}
    (a5 : PySem.W.nsIn K mainGlobals "point_of" = some (some (.ref f5))) (l5 : K.lookup f5 = some ⟨oc5, od5, .func (PySem.W.fnOf "point_of" "point_of" (defArgs s_point_of) (defBody s_point_of) (defScope s_point_of) .none kV5 dc5 pm5 an5 cd5 ct5), sl5⟩) (c5 : PySem.W.codeIn K cd5 "point_of" = true) (k5 : PySem.W.keepIn K (.ref f5) = true)
    {f6 : Addr} {od6 an6 : Option Addr} {sl6 : Array (Option Value)} {oc6 kV6 dc6 pm6 cd6 ct6 : Value}
    (a6 : PySem.W.nsIn K mainGlobals "shape_of" = some (some (.ref f6))) (l6 : K.lookup f6 = some ⟨oc6, od6, .func (PySem.W.fnOf "shape_of" "shape_of" (defArgs s_shape_of) (defBody s_shape_of) (defScope s_shape_of) .none kV6 dc6 pm6 an6 cd6 ct6), sl6⟩) (c6 : PySem.W.codeIn K cd6 "shape_of" = true) (k6 : PySem.W.keepIn K (.ref f6) = true)
    {f7 : Addr} {od7 an7 : Option Addr} {sl7 : Array (Option Value)} {oc7 kV7 dc7 pm7 cd7 ct7 : Value}
    (a7 : PySem.W.nsIn K mainGlobals "check_text" = some (some (.ref f7))) (l7 : K.lookup f7 = some ⟨oc7, od7, .func (PySem.W.fnOf "check_text" "check_text" (defArgs s_check_text) (defBody s_check_text) (defScope s_check_text) .none kV7 dc7 pm7 an7 cd7 ct7), sl7⟩) (c7 : PySem.W.codeIn K cd7 "check_text" = true) (k7 : PySem.W.keepIn K (.ref f7) = true)
    {f8 : Addr} {od8 an8 : Option Addr} {sl8 : Array (Option Value)} {oc8 kV8 dc8 pm8 cd8 ct8 : Value}
    (a8 : PySem.W.nsIn K mainGlobals "read_whole" = some (some (.ref f8))) (l8 : K.lookup f8 = some ⟨oc8, od8, .func (PySem.W.fnOf "read_whole" "read_whole" (defArgs s_read_whole) (defBody s_read_whole) (defScope s_read_whole) .none kV8 dc8 pm8 an8 cd8 ct8), sl8⟩) (c8 : PySem.W.codeIn K cd8 "read_whole" = true) (k8 : PySem.W.keepIn K (.ref f8) = true)
    {f9 : Addr} {od9 an9 : Option Addr} {sl9 : Array (Option Value)} {oc9 kV9 dc9 pm9 cd9 ct9 : Value}
    (a9 : PySem.W.nsIn K mainGlobals "read_fraction" = some (some (.ref f9))) (l9 : K.lookup f9 = some ⟨oc9, od9, .func (PySem.W.fnOf "read_fraction" "read_fraction" (defArgs s_read_fraction) (defBody s_read_fraction) (defScope s_read_fraction) .none kV9 dc9 pm9 an9 cd9 ct9), sl9⟩) (c9 : PySem.W.codeIn K cd9 "read_fraction" = true) (k9 : PySem.W.keepIn K (.ref f9) = true)
    {f10 : Addr} {od10 an10 : Option Addr} {sl10 : Array (Option Value)} {oc10 kV10 dc10 pm10 cd10 ct10 : Value}
    (a10 : PySem.W.nsIn K mainGlobals "read_point" = some (some (.ref f10))) (l10 : K.lookup f10 = some ⟨oc10, od10, .func (PySem.W.fnOf "read_point" "read_point" (defArgs s_read_point) (defBody s_read_point) (defScope s_read_point) .none kV10 dc10 pm10 an10 cd10 ct10), sl10⟩) (c10 : PySem.W.codeIn K cd10 "read_point" = true) (k10 : PySem.W.keepIn K (.ref f10) = true)
    {f11 : Addr} {od11 an11 : Option Addr} {sl11 : Array (Option Value)} {oc11 kV11 dc11 pm11 cd11 ct11 : Value}
    (a11 : PySem.W.nsIn K mainGlobals "read_ring" = some (some (.ref f11))) (l11 : K.lookup f11 = some ⟨oc11, od11, .func (PySem.W.fnOf "read_ring" "read_ring" (defArgs s_read_ring) (defBody s_read_ring) (defScope s_read_ring) .none kV11 dc11 pm11 an11 cd11 ct11), sl11⟩) (c11 : PySem.W.codeIn K cd11 "read_ring" = true) (k11 : PySem.W.keepIn K (.ref f11) = true)
    {f12 : Addr} {od12 an12 : Option Addr} {sl12 : Array (Option Value)} {oc12 kV12 dc12 pm12 cd12 ct12 : Value}
    (a12 : PySem.W.nsIn K mainGlobals "read_rings" = some (some (.ref f12))) (l12 : K.lookup f12 = some ⟨oc12, od12, .func (PySem.W.fnOf "read_rings" "read_rings" (defArgs s_read_rings) (defBody s_read_rings) (defScope s_read_rings) .none kV12 dc12 pm12 an12 cd12 ct12), sl12⟩) (c12 : PySem.W.codeIn K cd12 "read_rings" = true) (k12 : PySem.W.keepIn K (.ref f12) = true)
    {f13 : Addr} {od13 an13 : Option Addr} {sl13 : Array (Option Value)} {oc13 kV13 dc13 pm13 cd13 ct13 : Value}
    (a13 : PySem.W.nsIn K mainGlobals "read_name" = some (some (.ref f13))) (l13 : K.lookup f13 = some ⟨oc13, od13, .func (PySem.W.fnOf "read_name" "read_name" (defArgs s_read_name) (defBody s_read_name) (defScope s_read_name) .none kV13 dc13 pm13 an13 cd13 ct13), sl13⟩) (c13 : PySem.W.codeIn K cd13 "read_name" = true) (k13 : PySem.W.keepIn K (.ref f13) = true)
    {f14 : Addr} {od14 an14 : Option Addr} {sl14 : Array (Option Value)} {oc14 kV14 dc14 pm14 cd14 ct14 : Value}
    (a14 : PySem.W.nsIn K mainGlobals "part_from" = some (some (.ref f14))) (l14 : K.lookup f14 = some ⟨oc14, od14, .func (PySem.W.fnOf "part_from" "part_from" (defArgs s_part_from) (defBody s_part_from) (defScope s_part_from) .none kV14 dc14 pm14 an14 cd14 ct14), sl14⟩) (c14 : PySem.W.codeIn K cd14 "part_from" = true) (k14 : PySem.W.keepIn K (.ref f14) = true)
    {f15 : Addr} {od15 an15 : Option Addr} {sl15 : Array (Option Value)} {oc15 kV15 dc15 pm15 cd15 ct15 : Value}
    (a15 : PySem.W.nsIn K mainGlobals "wish_from" = some (some (.ref f15))) (l15 : K.lookup f15 = some ⟨oc15, od15, .func (PySem.W.fnOf "wish_from" "wish_from" (defArgs s_wish_from) (defBody s_wish_from) (defScope s_wish_from) .none kV15 dc15 pm15 an15 cd15 ct15), sl15⟩) (c15 : PySem.W.codeIn K cd15 "wish_from" = true) (k15 : PySem.W.keepIn K (.ref f15) = true)
    {f16 : Addr} {od16 an16 : Option Addr} {sl16 : Array (Option Value)} {oc16 kV16 dc16 pm16 cd16 ct16 : Value}
    (a16 : PySem.W.nsIn K mainGlobals "read_wish" = some (some (.ref f16))) (l16 : K.lookup f16 = some ⟨oc16, od16, .func (PySem.W.fnOf "read_wish" "read_wish" (defArgs s_read_wish) (defBody s_read_wish) (defScope s_read_wish) .none kV16 dc16 pm16 an16 cd16 ct16), sl16⟩) (c16 : PySem.W.codeIn K cd16 "read_wish" = true) (k16 : PySem.W.keepIn K (.ref f16) = true)
    {f17 : Addr} {od17 an17 : Option Addr} {sl17 : Array (Option Value)} {oc17 kV17 dc17 pm17 cd17 ct17 : Value}
    (a17 : PySem.W.nsIn K mainGlobals "_law_hand" = some (some (.ref f17))) (l17 : K.lookup f17 = some ⟨oc17, od17, .func (PySem.W.fnOf "_law_hand" "_law_hand" (defArgs s_l_hand) (defBody s_l_hand) (defScope s_l_hand) .none kV17 dc17 pm17 an17 cd17 ct17), sl17⟩) (c17 : PySem.W.codeIn K cd17 "_law_hand" = true) (k17 : PySem.W.keepIn K (.ref f17) = true)
    {f18 : Addr} {od18 an18 : Option Addr} {sl18 : Array (Option Value)} {oc18 kV18 dc18 pm18 cd18 ct18 : Value}
    (a18 : PySem.W.nsIn K mainGlobals "_law_next" = some (some (.ref f18))) (l18 : K.lookup f18 = some ⟨oc18, od18, .func (PySem.W.fnOf "_law_next" "_law_next" (defArgs s_l_next) (defBody s_l_next) (defScope s_l_next) .none kV18 dc18 pm18 an18 cd18 ct18), sl18⟩) (c18 : PySem.W.codeIn K cd18 "_law_next" = true) (k18 : PySem.W.keepIn K (.ref f18) = true)
    {f19 : Addr} {od19 an19 : Option Addr} {sl19 : Array (Option Value)} {oc19 kV19 dc19 pm19 cd19 ct19 : Value}
    (a19 : PySem.W.nsIn K mainGlobals "_law_take" = some (some (.ref f19))) (l19 : K.lookup f19 = some ⟨oc19, od19, .func (PySem.W.fnOf "_law_take" "_law_take" (defArgs s_l_take) (defBody s_l_take) (defScope s_l_take) .none kV19 dc19 pm19 an19 cd19 ct19), sl19⟩) (c19 : PySem.W.codeIn K cd19 "_law_take" = true) (k19 : PySem.W.keepIn K (.ref f19) = true)
    {f20 : Addr} {od20 an20 : Option Addr} {sl20 : Array (Option Value)} {oc20 kV20 dc20 pm20 cd20 ct20 : Value}
    (a20 : PySem.W.nsIn K mainGlobals "_law_draw" = some (some (.ref f20))) (l20 : K.lookup f20 = some ⟨oc20, od20, .func (PySem.W.fnOf "_law_draw" "_law_draw" (defArgs s_l_draw) (defBody s_l_draw) (defScope s_l_draw) .none kV20 dc20 pm20 an20 cd20 ct20), sl20⟩) (c20 : PySem.W.codeIn K cd20 "_law_draw" = true) (k20 : PySem.W.keepIn K (.ref f20) = true)
    {f21 : Addr} {od21 an21 : Option Addr} {sl21 : Array (Option Value)} {oc21 kV21 dc21 pm21 cd21 ct21 : Value}
    (a21 : PySem.W.nsIn K mainGlobals "_law_divisor" = some (some (.ref f21))) (l21 : K.lookup f21 = some ⟨oc21, od21, .func (PySem.W.fnOf "_law_divisor" "_law_divisor" (defArgs s_l_divisor) (defBody s_l_divisor) (defScope s_l_divisor) .none kV21 dc21 pm21 an21 cd21 ct21), sl21⟩) (c21 : PySem.W.codeIn K cd21 "_law_divisor" = true) (k21 : PySem.W.keepIn K (.ref f21) = true)
    {f22 : Addr} {od22 an22 : Option Addr} {sl22 : Array (Option Value)} {oc22 kV22 dc22 pm22 cd22 ct22 : Value}
    (a22 : PySem.W.nsIn K mainGlobals "_law_point" = some (some (.ref f22))) (l22 : K.lookup f22 = some ⟨oc22, od22, .func (PySem.W.fnOf "_law_point" "_law_point" (defArgs s_l_point) (defBody s_l_point) (defScope s_l_point) .none kV22 dc22 pm22 an22 cd22 ct22), sl22⟩) (c22 : PySem.W.codeIn K cd22 "_law_point" = true) (k22 : PySem.W.keepIn K (.ref f22) = true)
    {f23 : Addr} {od23 an23 : Option Addr} {sl23 : Array (Option Value)} {oc23 kV23 dc23 pm23 cd23 ct23 : Value}
    (a23 : PySem.W.nsIn K mainGlobals "_law_number" = some (some (.ref f23))) (l23 : K.lookup f23 = some ⟨oc23, od23, .func (PySem.W.fnOf "_law_number" "_law_number" (defArgs s_l_number) (defBody s_l_number) (defScope s_l_number) .none kV23 dc23 pm23 an23 cd23 ct23), sl23⟩) (c23 : PySem.W.codeIn K cd23 "_law_number" = true) (k23 : PySem.W.keepIn K (.ref f23) = true)
    {f24 : Addr} {od24 an24 : Option Addr} {sl24 : Array (Option Value)} {oc24 kV24 dc24 pm24 cd24 ct24 : Value}
    (a24 : PySem.W.nsIn K mainGlobals "_law_fraction" = some (some (.ref f24))) (l24 : K.lookup f24 = some ⟨oc24, od24, .func (PySem.W.fnOf "_law_fraction" "_law_fraction" (defArgs s_l_fraction) (defBody s_l_fraction) (defScope s_l_fraction) .none kV24 dc24 pm24 an24 cd24 ct24), sl24⟩) (c24 : PySem.W.codeIn K cd24 "_law_fraction" = true) (k24 : PySem.W.keepIn K (.ref f24) = true)
    {f25 : Addr} {od25 an25 : Option Addr} {sl25 : Array (Option Value)} {oc25 kV25 dc25 pm25 cd25 ct25 : Value}
    (a25 : PySem.W.nsIn K mainGlobals "_law_text" = some (some (.ref f25))) (l25 : K.lookup f25 = some ⟨oc25, od25, .func (PySem.W.fnOf "_law_text" "_law_text" (defArgs s_l_text) (defBody s_l_text) (defScope s_l_text) .none kV25 dc25 pm25 an25 cd25 ct25), sl25⟩) (c25 : PySem.W.codeIn K cd25 "_law_text" = true) (k25 : PySem.W.keepIn K (.ref f25) = true)
    {f26 : Addr} {od26 an26 : Option Addr} {sl26 : Array (Option Value)} {oc26 kV26 dc26 pm26 cd26 ct26 : Value}
    (a26 : PySem.W.nsIn K mainGlobals "_law_point_by" = some (some (.ref f26))) (l26 : K.lookup f26 = some ⟨oc26, od26, .func (PySem.W.fnOf "_law_point_by" "_law_point_by" (defArgs s_l_point_by) (defBody s_l_point_by) (defScope s_l_point_by) .none kV26 dc26 pm26 an26 cd26 ct26), sl26⟩) (c26 : PySem.W.codeIn K cd26 "_law_point_by" = true) (k26 : PySem.W.keepIn K (.ref f26) = true)
    {f27 : Addr} {od27 an27 : Option Addr} {sl27 : Array (Option Value)} {oc27 kV27 dc27 pm27 cd27 ct27 : Value}
    (a27 : PySem.W.nsIn K mainGlobals "_law_name" = some (some (.ref f27))) (l27 : K.lookup f27 = some ⟨oc27, od27, .func (PySem.W.fnOf "_law_name" "_law_name" (defArgs s_l_name) (defBody s_l_name) (defScope s_l_name) .none kV27 dc27 pm27 an27 cd27 ct27), sl27⟩) (c27 : PySem.W.codeIn K cd27 "_law_name" = true) (k27 : PySem.W.keepIn K (.ref f27) = true)
    {f28 : Addr} {od28 an28 : Option Addr} {sl28 : Array (Option Value)} {oc28 kV28 dc28 pm28 cd28 ct28 : Value}
    (a28 : PySem.W.nsIn K mainGlobals "_law_wish" = some (some (.ref f28))) (l28 : K.lookup f28 = some ⟨oc28, od28, .func (PySem.W.fnOf "_law_wish" "_law_wish" (defArgs s_l_wish) (defBody s_l_wish) (defScope s_l_wish) .none kV28 dc28 pm28 an28 cd28 ct28), sl28⟩) (c28 : PySem.W.codeIn K cd28 "_law_wish" = true) (k28 : PySem.W.keepIn K (.ref f28) = true)
    {f29 : Addr} {od29 an29 : Option Addr} {sl29 : Array (Option Value)} {oc29 kV29 dc29 pm29 cd29 ct29 : Value}
    (a29 : PySem.W.nsIn K mainGlobals "_law_written" = some (some (.ref f29))) (l29 : K.lookup f29 = some ⟨oc29, od29, .func (PySem.W.fnOf "_law_written" "_law_written" (defArgs s_l_written) (defBody s_l_written) (defScope s_l_written) .none kV29 dc29 pm29 an29 cd29 ct29), sl29⟩) (c29 : PySem.W.codeIn K cd29 "_law_written" = true) (k29 : PySem.W.keepIn K (.ref f29) = true)
    {f30 : Addr} {od30 an30 : Option Addr} {sl30 : Array (Option Value)} {oc30 kV30 dc30 pm30 cd30 ct30 : Value}
    (a30 : PySem.W.nsIn K mainGlobals "_law_ask" = some (some (.ref f30))) (l30 : K.lookup f30 = some ⟨oc30, od30, .func (PySem.W.fnOf "_law_ask" "_law_ask" (defArgs s_l_ask) (defBody s_l_ask) (defScope s_l_ask) .none kV30 dc30 pm30 an30 cd30 ct30), sl30⟩) (c30 : PySem.W.codeIn K cd30 "_law_ask" = true) (k30 : PySem.W.keepIn K (.ref f30) = true)
    {f31 : Addr} {od31 an31 : Option Addr} {sl31 : Array (Option Value)} {oc31 kV31 dc31 pm31 cd31 ct31 : Value}
    (a31 : PySem.W.nsIn K mainGlobals "_law_no_text" = some (some (.ref f31))) (l31 : K.lookup f31 = some ⟨oc31, od31, .func (PySem.W.fnOf "_law_no_text" "_law_no_text" (defArgs s_l_no_text) (defBody s_l_no_text) (defScope s_l_no_text) .none kV31 dc31 pm31 an31 cd31 ct31), sl31⟩) (c31 : PySem.W.codeIn K cd31 "_law_no_text" = true) (k31 : PySem.W.keepIn K (.ref f31) = true)
    {f32 : Addr} {od32 an32 : Option Addr} {sl32 : Array (Option Value)} {oc32 kV32 dc32 pm32 cd32 ct32 : Value}
    (a32 : PySem.W.nsIn K mainGlobals "_law_good" = some (some (.ref f32))) (l32 : K.lookup f32 = some ⟨oc32, od32, .func (PySem.W.fnOf "_law_good" "_law_good" (defArgs s_l_good) (defBody s_l_good) (defScope s_l_good) .none kV32 dc32 pm32 an32 cd32 ct32), sl32⟩) (c32 : PySem.W.codeIn K cd32 "_law_good" = true) (k32 : PySem.W.keepIn K (.ref f32) = true)
    {f33 : Addr} {od33 an33 : Option Addr} {sl33 : Array (Option Value)} {oc33 kV33 dc33 pm33 cd33 ct33 : Value}
    (a33 : PySem.W.nsIn K mainGlobals "_law_word" = some (some (.ref f33))) (l33 : K.lookup f33 = some ⟨oc33, od33, .func (PySem.W.fnOf "_law_word" "_law_word" (defArgs s_l_word) (defBody s_l_word) (defScope s_l_word) .none kV33 dc33 pm33 an33 cd33 ct33), sl33⟩) (c33 : PySem.W.codeIn K cd33 "_law_word" = true) (k33 : PySem.W.keepIn K (.ref f33) = true)
    {f34 : Addr} {od34 an34 : Option Addr} {sl34 : Array (Option Value)} {oc34 kV34 dc34 pm34 cd34 ct34 : Value}
    (a34 : PySem.W.nsIn K mainGlobals "_law_spoilt_words" = some (some (.ref f34))) (l34 : K.lookup f34 = some ⟨oc34, od34, .func (PySem.W.fnOf "_law_spoilt_words" "_law_spoilt_words" (defArgs s_l_spoilt_words) (defBody s_l_spoilt_words) (defScope s_l_spoilt_words) .none kV34 dc34 pm34 an34 cd34 ct34), sl34⟩) (c34 : PySem.W.codeIn K cd34 "_law_spoilt_words" = true) (k34 : PySem.W.keepIn K (.ref f34) = true)
    {f35 : Addr} {od35 an35 : Option Addr} {sl35 : Array (Option Value)} {oc35 kV35 dc35 pm35 cd35 ct35 : Value}
    (a35 : PySem.W.nsIn K mainGlobals "_law_spoilt" = some (some (.ref f35))) (l35 : K.lookup f35 = some ⟨oc35, od35, .func (PySem.W.fnOf "_law_spoilt" "_law_spoilt" (defArgs s_l_spoilt) (defBody s_l_spoilt) (defScope s_l_spoilt) .none kV35 dc35 pm35 an35 cd35 ct35), sl35⟩) (c35 : PySem.W.codeIn K cd35 "_law_spoilt" = true) (k35 : PySem.W.keepIn K (.ref f35) = true)
    {f36 : Addr} {od36 an36 : Option Addr} {sl36 : Array (Option Value)} {oc36 kV36 dc36 pm36 cd36 ct36 : Value}
    (a36 : PySem.W.nsIn K mainGlobals "_law_top" = some (some (.ref f36))) (l36 : K.lookup f36 = some ⟨oc36, od36, .func (PySem.W.fnOf "_law_top" "_law_top" (defArgs s_l_top) (defBody s_l_top) (defScope s_l_top) .none kV36 dc36 pm36 an36 cd36 ct36), sl36⟩) (c36 : PySem.W.codeIn K cd36 "_law_top" = true) (k36 : PySem.W.keepIn K (.ref f36) = true)
    {f37 : Addr} {od37 an37 : Option Addr} {sl37 : Array (Option Value)} {oc37 kV37 dc37 pm37 cd37 ct37 : Value}
    (a37 : PySem.W.nsIn K mainGlobals "_law_fraction_by" = some (some (.ref f37))) (l37 : K.lookup f37 = some ⟨oc37, od37, .func (PySem.W.fnOf "_law_fraction_by" "_law_fraction_by" (defArgs s_l_fraction_by) (defBody s_l_fraction_by) (defScope s_l_fraction_by) .none kV37 dc37 pm37 an37 cd37 ct37), sl37⟩) (c37 : PySem.W.codeIn K cd37 "_law_fraction_by" = true) (k37 : PySem.W.keepIn K (.ref f37) = true)
    {f38 : Addr} {od38 an38 : Option Addr} {sl38 : Array (Option Value)} {oc38 kV38 dc38 pm38 cd38 ct38 : Value}
    (a38 : PySem.W.nsIn K mainGlobals "_law_point_read" = some (some (.ref f38))) (l38 : K.lookup f38 = some ⟨oc38, od38, .func (PySem.W.fnOf "_law_point_read" "_law_point_read" (defArgs s_l_point_read) (defBody s_l_point_read) (defScope s_l_point_read) .none kV38 dc38 pm38 an38 cd38 ct38), sl38⟩) (c38 : PySem.W.codeIn K cd38 "_law_point_read" = true) (k38 : PySem.W.keepIn K (.ref f38) = true)
    {f39 : Addr} {od39 an39 : Option Addr} {sl39 : Array (Option Value)} {oc39 kV39 dc39 pm39 cd39 ct39 : Value}
    (a39 : PySem.W.nsIn K mainGlobals "_law_rings_read" = some (some (.ref f39))) (l39 : K.lookup f39 = some ⟨oc39, od39, .func (PySem.W.fnOf "_law_rings_read" "_law_rings_read" (defArgs s_l_rings_read) (defBody s_l_rings_read) (defScope s_l_rings_read) .none kV39 dc39 pm39 an39 cd39 ct39), sl39⟩) (c39 : PySem.W.codeIn K cd39 "_law_rings_read" = true) (k39 : PySem.W.keepIn K (.ref f39) = true)
    {f40 : Addr} {od40 an40 : Option Addr} {sl40 : Array (Option Value)} {oc40 kV40 dc40 pm40 cd40 ct40 : Value}
    (a40 : PySem.W.nsIn K mainGlobals "_law_is_name" = some (some (.ref f40))) (l40 : K.lookup f40 = some ⟨oc40, od40, .func (PySem.W.fnOf "_law_is_name" "_law_is_name" (defArgs s_l_is_name) (defBody s_l_is_name) (defScope s_l_is_name) .none kV40 dc40 pm40 an40 cd40 ct40), sl40⟩) (c40 : PySem.W.codeIn K cd40 "_law_is_name" = true) (k40 : PySem.W.keepIn K (.ref f40) = true)
    {f41 : Addr} {od41 an41 : Option Addr} {sl41 : Array (Option Value)} {oc41 kV41 dc41 pm41 cd41 ct41 : Value}
    (a41 : PySem.W.nsIn K mainGlobals "_law_wish_from" = some (some (.ref f41))) (l41 : K.lookup f41 = some ⟨oc41, od41, .func (PySem.W.fnOf "_law_wish_from" "_law_wish_from" (defArgs s_l_wish_from) (defBody s_l_wish_from) (defScope s_l_wish_from) .none kV41 dc41 pm41 an41 cd41 ct41), sl41⟩) (c41 : PySem.W.codeIn K cd41 "_law_wish_from" = true) (k41 : PySem.W.keepIn K (.ref f41) = true)
    {f42 : Addr} {od42 an42 : Option Addr} {sl42 : Array (Option Value)} {oc42 kV42 dc42 pm42 cd42 ct42 : Value}
    (a42 : PySem.W.nsIn K mainGlobals "_law_due" = some (some (.ref f42))) (l42 : K.lookup f42 = some ⟨oc42, od42, .func (PySem.W.fnOf "_law_due" "_law_due" (defArgs s_l_due) (defBody s_l_due) (defScope s_l_due) .none kV42 dc42 pm42 an42 cd42 ct42), sl42⟩) (c42 : PySem.W.codeIn K cd42 "_law_due" = true) (k42 : PySem.W.keepIn K (.ref f42) = true)
    {f43 : Addr} {od43 an43 : Option Addr} {sl43 : Array (Option Value)} {oc43 kV43 dc43 pm43 cd43 ct43 : Value}
    (a43 : PySem.W.nsIn K mainGlobals "_law_right" = some (some (.ref f43))) (l43 : K.lookup f43 = some ⟨oc43, od43, .func (PySem.W.fnOf "_law_right" "_law_right" (defArgs s_l_right) (defBody s_l_right) (defScope s_l_right) .none kV43 dc43 pm43 an43 cd43 ct43), sl43⟩) (c43 : PySem.W.codeIn K cd43 "_law_right" = true) (k43 : PySem.W.keepIn K (.ref f43) = true)
    {f44 : Addr} {od44 an44 : Option Addr} {sl44 : Array (Option Value)} {oc44 kV44 dc44 pm44 cd44 ct44 : Value}
    (a44 : PySem.W.nsIn K mainGlobals "law" = some (some (.ref f44))) (l44 : K.lookup f44 = some ⟨oc44, od44, .func (PySem.W.fnOf "law" "law" (defArgs s_law) (defBody s_law) (defScope s_law) .none kV44 dc44 pm44 an44 cd44 ct44), sl44⟩) (c44 : PySem.W.codeIn K cd44 "law" = true) (k44 : PySem.W.keepIn K (.ref f44) = true)
    (z0 : PySem.W.nsIn K mainGlobals "ValueError" = some none)
    (z1 : PySem.W.nsIn K mainGlobals "abs" = some none)
    (z2 : PySem.W.nsIn K mainGlobals "all" = some none)
    (z3 : PySem.W.nsIn K mainGlobals "bool" = some none)
    (z4 : PySem.W.nsIn K mainGlobals "int" = some none)
    (z5 : PySem.W.nsIn K mainGlobals "isinstance" = some none)
    (z6 : PySem.W.nsIn K mainGlobals "len" = some none)
    (z7 : PySem.W.nsIn K mainGlobals "list" = some none)
    (z8 : PySem.W.nsIn K mainGlobals "max" = some none)
    (z9 : PySem.W.nsIn K mainGlobals "range" = some none)
    (z10 : PySem.W.nsIn K mainGlobals "str" = some none)
    (z11 : PySem.W.nsIn K mainGlobals "tuple" = some none)
    {tq0 : Tok} (q0 : PySem.W.nsIn K mainGlobals "MOST_LETTERS" = some (some (.int 8 tq0)))
    {tq1 : Tok} (q1 : PySem.W.nsIn K mainGlobals "LETTERS" = some (some (.str "abcdefghijklmnopqrstuvwxyz" tq1)))
    {tq2 : Tok} (q2 : PySem.W.nsIn K mainGlobals "DEEPEST" = some (some (.int 6 tq2)))
    {tq3 : Tok} (q3 : PySem.W.nsIn K mainGlobals "FIGURES" = some (some (.str "0123456789" tq3)))
    {tq4 : Tok} (q4 : PySem.W.nsIn K mainGlobals "MOST_FIGURES" = some (some (.int 60 tq4)))
    {t0 : Tok} {ad0 : Addr} {t1 : Tok} {ad1 : Addr} {t2 : Tok} {ad2 : Addr} {t3 : Tok} {ad3 : Addr} {t4 : Tok} {ad4 : Addr} {t5 : Tok} {ad5 : Addr} {o0 : Option Addr} {n0} {s0 : Array (Option Value)} {u0_0 : Tok} {o1 : Option Addr} {n1} {s1 : Array (Option Value)} {u1_0 : Tok} {u1_1 : Tok} {o2 : Option Addr} {n2} {s2 : Array (Option Value)} {u2_0 : Tok} {o3 : Option Addr} {n3} {s3 : Array (Option Value)} {u3_0 : Tok} {o4 : Option Addr} {n4} {s4 : Array (Option Value)} {u4_0 : Tok} {u4_1 : Tok} {o5 : Option Addr} {n5} {s5 : Array (Option Value)} {u5_0 : Tok} {u5_1 : Tok} {epS : _} (wS : (g0 == sysModules) = false) (yS : K.lookup g0 = some ⟨.type "dict", none, .dict #[⟨PyData.keyHash w.params (Str.ofString "in"), .str (Str.ofString "in") t0, .ref ad0⟩, ⟨PyData.keyHash w.params (Str.ofString "round"), .str (Str.ofString "round") t1, .ref ad1⟩, ⟨PyData.keyHash w.params (Str.ofString "least"), .str (Str.ofString "least") t2, .ref ad2⟩, ⟨PyData.keyHash w.params (Str.ofString "no"), .str (Str.ofString "no") t3, .ref ad3⟩, ⟨PyData.keyHash w.params (Str.ofString "both"), .str (Str.ofString "both") t4, .ref ad4⟩, ⟨PyData.keyHash w.params (Str.ofString "any"), .str (Str.ofString "any") t5, .ref ad5⟩] epS, #[]⟩) (y0 : K.lookup ad0 = some ⟨.type "tuple", o0, .seq #[.str (Str.ofString "name") u0_0] n0, s0⟩) (y1 : K.lookup ad1 = some ⟨.type "tuple", o1, .seq #[.str (Str.ofString "name") u1_0, .str (Str.ofString "number") u1_1] n1, s1⟩) (y2 : K.lookup ad2 = some ⟨.type "tuple", o2, .seq #[.str (Str.ofString "number") u2_0] n2, s2⟩) (y3 : K.lookup ad3 = some ⟨.type "tuple", o3, .seq #[.str (Str.ofString "wish") u3_0] n3, s3⟩) (y4 : K.lookup ad4 = some ⟨.type "tuple", o4, .seq #[.str (Str.ofString "wish") u4_0, .str (Str.ofString "wish") u4_1] n4, s4⟩) (y5 : K.lookup ad5 = some ⟨.type "tuple", o5, .seq #[.str (Str.ofString "wish") u5_0, .str (Str.ofString "wish") u5_1] n5, s5⟩)
    (w0 : exK K g1 = true)
    (w1 : exC K g1 = true)
    (w2 : PySem.W.exmOne K (.ref g1) (.ref g2) = some true)
    (w3 : PySem.W.kitAny K (.ref g1) [.ref g3, .ref g4, .ref g5] = some false)
    (w4 : PySem.W.kitOne K (.ref g1) (.ref g1) = some true)
    (w5 : PySem.W.kitOne K (.ref g1) (.type "ValueError") = some true)
    : ∃ fd : FuncData, (∀ (s : Shared) (v : Value), BindsTo s fd ⟨[v], []⟩ [("_law_script", v)]) ∧ ∀ base : Heap, K.In base → base.Ns mainGlobals mg → FnOk l.prog w K mg base CX0 25 fa fd ["_law_script"] (sp_law K) := by
  have e := hfa.symm.trans (PySem.W.mg_of X G a44)
  cases e
  have F0 := fun_mk (st := s_is_name) l0 c0 k0
  have b0 := F0.binds (ps := ["thing"]) fun _ _ _ _ _ _ us hl => match us, hl with | [_], _ => rfl
  have F1 := fun_mk (st := s_is_whole) l1 c1 k1
  have b1 := F1.binds (ps := ["thing"]) fun _ _ _ _ _ _ us hl => match us, hl with | [_], _ => rfl
  have F2 := fun_mk (st := s_divisor_of) l2 c2 k2
  have b2 := F2.binds (ps := ["one", "other"]) fun _ _ _ _ _ _ us hl => match us, hl with | [_, _], _ => rfl
  have F3 := fun_mk (st := s_is_fraction) l3 c3 k3
  have b3 := F3.binds (ps := ["thing"]) fun _ _ _ _ _ _ us hl => match us, hl with | [_], _ => rfl
  have F4 := fun_mk (st := s_point_by) l4 c4 k4
  have b4 := F4.binds (ps := ["a", "b", "c"]) fun _ _ _ _ _ _ us hl => match us, hl with | [_, _, _], _ => rfl
  have F5 := fun_mk (st := s_point_of) l5 c5 k5
  have b5 := F5.binds (ps := ["x", "y"]) fun _ _ _ _ _ _ us hl => match us, hl with | [_, _], _ => rfl
  have F6 := fun_mk (st := s_shape_of) l6 c6 k6
  have b6 := F6.binds (ps := ["word"]) fun _ _ _ _ _ _ us hl => match us, hl with | [_], _ => rfl
  have F7 := fun_mk (st := s_check_text) l7 c7 k7
  have b7 := F7.binds (ps := ["text"]) fun _ _ _ _ _ _ us hl => match us, hl with | [_], _ => rfl
  have F8 := fun_mk (st := s_read_whole) l8 c8 k8
  have b8 := F8.binds (ps := ["text"]) fun _ _ _ _ _ _ us hl => match us, hl with | [_], _ => rfl
  have F9 := fun_mk (st := s_read_fraction) l9 c9 k9
  have b9 := F9.binds (ps := ["text"]) fun _ _ _ _ _ _ us hl => match us, hl with | [_], _ => rfl
  have F10 := fun_mk (st := s_read_point) l10 c10 k10
  have b10 := F10.binds (ps := ["text"]) fun _ _ _ _ _ _ us hl => match us, hl with | [_], _ => rfl
  have F11 := fun_mk (st := s_read_ring) l11 c11 k11
  have b11 := F11.binds (ps := ["text"]) fun _ _ _ _ _ _ us hl => match us, hl with | [_], _ => rfl
  have F12 := fun_mk (st := s_read_rings) l12 c12 k12
  have b12 := F12.binds (ps := ["text"]) fun _ _ _ _ _ _ us hl => match us, hl with | [_], _ => rfl
  have F13 := fun_mk (st := s_read_name) l13 c13 k13
  have b13 := F13.binds (ps := ["text"]) fun _ _ _ _ _ _ us hl => match us, hl with | [_], _ => rfl
  have F14 := fun_mk (st := s_part_from) l14 c14 k14
  have b14 := F14.binds (ps := ["kind", "words", "depth"]) fun _ _ _ _ _ _ us hl => match us, hl with | [_, _, _], _ => rfl
  have F15 := fun_mk (st := s_wish_from) l15 c15 k15
  have b15 := F15.binds (ps := ["words", "depth"]) fun _ _ _ _ _ _ us hl => match us, hl with | [_, _], _ => rfl
  have F16 := fun_mk (st := s_read_wish) l16 c16 k16
  have b16 := F16.binds (ps := ["text"]) fun _ _ _ _ _ _ us hl => match us, hl with | [_], _ => rfl
  have F17 := fun_mk (st := s_l_hand) l17 c17 k17
  have b17 := F17.binds (ps := ["_law_script"]) fun _ _ _ _ _ _ us hl => match us, hl with | [_], _ => rfl
  have F18 := fun_mk (st := s_l_next) l18 c18 k18
  have b18 := F18.binds (ps := ["_law_hand_here"]) fun _ _ _ _ _ _ us hl => match us, hl with | [_], _ => rfl
  have F19 := fun_mk (st := s_l_take) l19 c19 k19
  have b19 := F19.binds (ps := ["_law_hand_here"]) fun _ _ _ _ _ _ us hl => match us, hl with | [_], _ => rfl
  have F20 := fun_mk (st := s_l_draw) l20 c20 k20
  have b20 := F20.binds (ps := ["_law_hand_here", "_law_many"]) fun _ _ _ _ _ _ us hl => match us, hl with | [_, _], _ => rfl
  have F21 := fun_mk (st := s_l_divisor) l21 c21 k21
  have b21 := F21.binds (ps := ["_law_one", "_law_other"]) fun _ _ _ _ _ _ us hl => match us, hl with | [_, _], _ => rfl
  have F22 := fun_mk (st := s_l_point) l22 c22 k22
  have b22 := F22.binds (ps := ["_law_a", "_law_b", "_law_c"]) fun _ _ _ _ _ _ us hl => match us, hl with | [_, _, _], _ => rfl
  have F23 := fun_mk (st := s_l_number) l23 c23 k23
  have b23 := F23.binds (ps := ["_law_hand_here"]) fun _ _ _ _ _ _ us hl => match us, hl with | [_], _ => rfl
  have F24 := fun_mk (st := s_l_fraction) l24 c24 k24
  have b24 := F24.binds (ps := ["_law_hand_here"]) fun _ _ _ _ _ _ us hl => match us, hl with | [_], _ => rfl
  have F25 := fun_mk (st := s_l_text) l25 c25 k25
  have b25 := F25.binds (ps := ["_law_one"]) fun _ _ _ _ _ _ us hl => match us, hl with | [_], _ => rfl
  have F26 := fun_mk (st := s_l_point_by) l26 c26 k26
  have b26 := F26.binds (ps := ["_law_x", "_law_y"]) fun _ _ _ _ _ _ us hl => match us, hl with | [_, _], _ => rfl
  have F27 := fun_mk (st := s_l_name) l27 c27 k27
  have b27 := F27.binds (ps := ["_law_hand_here"]) fun _ _ _ _ _ _ us hl => match us, hl with | [_], _ => rfl
  have F28 := fun_mk (st := s_l_wish) l28 c28 k28
  have b28 := F28.binds (ps := ["_law_hand_here", "_law_deep"]) fun _ _ _ _ _ _ us hl => match us, hl with | [_, _], _ => rfl
  have F29 := fun_mk (st := s_l_written) l29 c29 k29
  have b29 := F29.binds (ps := ["_law_wish_here"]) fun _ _ _ _ _ _ us hl => match us, hl with | [_], _ => rfl
  have F30 := fun_mk (st := s_l_ask) l30 c30 k30
  have b30 := F30.binds (ps := ["_law_door", "_law_thing"]) fun _ _ _ _ _ _ us hl => match us, hl with | [_, _], _ => rfl
  have F31 := fun_mk (st := s_l_no_text) l31 c31 k31
  have b31 := F31.binds (ps := ["_law_door", "_law_thing"]) fun _ _ _ _ _ _ us hl => match us, hl with | [_, _], _ => rfl
  have F32 := fun_mk (st := s_l_good) l32 c32 k32
  have b32 := F32.binds (ps := ["_law_hand_here", "_law_door"]) fun _ _ _ _ _ _ us hl => match us, hl with | [_, _], _ => rfl
  have F33 := fun_mk (st := s_l_word) l33 c33 k33
  have b33 := F33.binds (ps := ["_law_hand_here"]) fun _ _ _ _ _ _ us hl => match us, hl with | [_], _ => rfl
  have F34 := fun_mk (st := s_l_spoilt_words) l34 c34 k34
  have b34 := F34.binds (ps := ["_law_hand_here", "_law_text_here"]) fun _ _ _ _ _ _ us hl => match us, hl with | [_, _], _ => rfl
  have F35 := fun_mk (st := s_l_spoilt) l35 c35 k35
  have b35 := F35.binds (ps := ["_law_hand_here", "_law_text_here"]) fun _ _ _ _ _ _ us hl => match us, hl with | [_, _], _ => rfl
  have F36 := fun_mk (st := s_l_top) l36 c36 k36
  have b36 := F36.binds (ps := ["_law_text_here"]) fun _ _ _ _ _ _ us hl => match us, hl with | [_], _ => rfl
  have F37 := fun_mk (st := s_l_fraction_by) l37 c37 k37
  have b37 := F37.binds (ps := ["_law_text_here"]) fun _ _ _ _ _ _ us hl => match us, hl with | [_], _ => rfl
  have F38 := fun_mk (st := s_l_point_read) l38 c38 k38
  have b38 := F38.binds (ps := ["_law_text_here"]) fun _ _ _ _ _ _ us hl => match us, hl with | [_], _ => rfl
  have F39 := fun_mk (st := s_l_rings_read) l39 c39 k39
  have b39 := F39.binds (ps := ["_law_text_here"]) fun _ _ _ _ _ _ us hl => match us, hl with | [_], _ => rfl
  have F40 := fun_mk (st := s_l_is_name) l40 c40 k40
  have b40 := F40.binds (ps := ["_law_word_here"]) fun _ _ _ _ _ _ us hl => match us, hl with | [_], _ => rfl
  have F41 := fun_mk (st := s_l_wish_from) l41 c41 k41
  have b41 := F41.binds (ps := ["_law_words", "_law_at", "_law_deep"]) fun _ _ _ _ _ _ us hl => match us, hl with | [_, _, _], _ => rfl
  have F42 := fun_mk (st := s_l_due) l42 c42 k42
  have b42 := F42.binds (ps := ["_law_door", "_law_text_here"]) fun _ _ _ _ _ _ us hl => match us, hl with | [_, _], _ => rfl
  have F43 := fun_mk (st := s_l_right) l43 c43 k43
  have b43 := F43.binds (ps := ["_law_door", "_law_text_here"]) fun _ _ _ _ _ _ us hl => match us, hl with | [_, _], _ => rfl
  have F44 := fun_mk (st := s_law) l44 c44 k44
  have b44 := F44.binds (ps := ["_law_script"]) fun _ _ _ _ _ _ us hl => match us, hl with | [_], _ => rfl
  have T : Txt K mg { f_is_name := f0, d_is_name := _, f_is_whole := f1, d_is_whole := _, f_divisor_of := f2, d_divisor_of := _, f_is_fraction := f3, d_is_fraction := _, f_point_by := f4, d_point_by := _, f_point_of := f5, d_point_of := _, f_shape_of := f6, d_shape_of := _, f_check_text := f7, d_check_text := _, f_read_whole := f8, d_read_whole := _, f_read_fraction := f9, d_read_fraction := _, f_read_point := f10, d_read_point := _, f_read_ring := f11, d_read_ring := _, f_read_rings := f12, d_read_rings := _, f_read_name := f13, d_read_name := _, f_part_from := f14, d_part_from := _, f_wish_from := f15, d_wish_from := _, f_read_wish := f16, d_read_wish := _, f_l_hand := f17, d_l_hand := _, f_l_next := f18, d_l_next := _, f_l_take := f19, d_l_take := _, f_l_draw := f20, d_l_draw := _, f_l_divisor := f21, d_l_divisor := _, f_l_point := f22, d_l_point := _, f_l_number := f23, d_l_number := _, f_l_fraction := f24, d_l_fraction := _, f_l_text := f25, d_l_text := _, f_l_point_by := f26, d_l_point_by := _, f_l_name := f27, d_l_name := _, f_l_wish := f28, d_l_wish := _, f_l_written := f29, d_l_written := _, f_l_ask := f30, d_l_ask := _, f_l_no_text := f31, d_l_no_text := _, f_l_good := f32, d_l_good := _, f_l_word := f33, d_l_word := _, f_l_spoilt_words := f34, d_l_spoilt_words := _, f_l_spoilt := f35, d_l_spoilt := _, f_l_top := f36, d_l_top := _, f_l_fraction_by := f37, d_l_fraction_by := _, f_l_point_read := f38, d_l_point_read := _, f_l_rings_read := f39, d_l_rings_read := _, f_l_is_name := f40, d_l_is_name := _, f_l_wish_from := f41, d_l_wish_from := _, f_l_due := f42, d_l_due := _, f_l_right := f43, d_l_right := _, f_law := fa, d_law := _, c_SHAPES := g0, c_NoText := g1, c_PlyError := g2, c_BadWish := g3, c_NoNumber := g4, c_NoPoint := g5 } w := { is_name := ⟨F0, b0, PySem.W.mg_of X G a0⟩, is_whole := ⟨F1, b1, PySem.W.mg_of X G a1⟩, divisor_of := ⟨F2, b2, PySem.W.mg_of X G a2⟩, is_fraction := ⟨F3, b3, PySem.W.mg_of X G a3⟩, point_by := ⟨F4, b4, PySem.W.mg_of X G a4⟩, point_of := ⟨F5, b5, PySem.W.mg_of X G a5⟩, shape_of := ⟨F6, b6, PySem.W.mg_of X G a6⟩, check_text := ⟨F7, b7, PySem.W.mg_of X G a7⟩, read_whole := ⟨F8, b8, PySem.W.mg_of X G a8⟩, read_fraction := ⟨F9, b9, PySem.W.mg_of X G a9⟩, read_point := ⟨F10, b10, PySem.W.mg_of X G a10⟩, read_ring := ⟨F11, b11, PySem.W.mg_of X G a11⟩, read_rings := ⟨F12, b12, PySem.W.mg_of X G a12⟩, read_name := ⟨F13, b13, PySem.W.mg_of X G a13⟩, part_from := ⟨F14, b14, PySem.W.mg_of X G a14⟩, wish_from := ⟨F15, b15, PySem.W.mg_of X G a15⟩, read_wish := ⟨F16, b16, PySem.W.mg_of X G a16⟩, l_hand := ⟨F17, b17, PySem.W.mg_of X G a17⟩, l_next := ⟨F18, b18, PySem.W.mg_of X G a18⟩, l_take := ⟨F19, b19, PySem.W.mg_of X G a19⟩, l_draw := ⟨F20, b20, PySem.W.mg_of X G a20⟩, l_divisor := ⟨F21, b21, PySem.W.mg_of X G a21⟩, l_point := ⟨F22, b22, PySem.W.mg_of X G a22⟩, l_number := ⟨F23, b23, PySem.W.mg_of X G a23⟩, l_fraction := ⟨F24, b24, PySem.W.mg_of X G a24⟩, l_text := ⟨F25, b25, PySem.W.mg_of X G a25⟩, l_point_by := ⟨F26, b26, PySem.W.mg_of X G a26⟩, l_name := ⟨F27, b27, PySem.W.mg_of X G a27⟩, l_wish := ⟨F28, b28, PySem.W.mg_of X G a28⟩, l_written := ⟨F29, b29, PySem.W.mg_of X G a29⟩, l_ask := ⟨F30, b30, PySem.W.mg_of X G a30⟩, l_no_text := ⟨F31, b31, PySem.W.mg_of X G a31⟩, l_good := ⟨F32, b32, PySem.W.mg_of X G a32⟩, l_word := ⟨F33, b33, PySem.W.mg_of X G a33⟩, l_spoilt_words := ⟨F34, b34, PySem.W.mg_of X G a34⟩, l_spoilt := ⟨F35, b35, PySem.W.mg_of X G a35⟩, l_top := ⟨F36, b36, PySem.W.mg_of X G a36⟩, l_fraction_by := ⟨F37, b37, PySem.W.mg_of X G a37⟩, l_point_read := ⟨F38, b38, PySem.W.mg_of X G a38⟩, l_rings_read := ⟨F39, b39, PySem.W.mg_of X G a39⟩, l_is_name := ⟨F40, b40, PySem.W.mg_of X G a40⟩, l_wish_from := ⟨F41, b41, PySem.W.mg_of X G a41⟩, l_due := ⟨F42, b42, PySem.W.mg_of X G a42⟩, l_right := ⟨F43, b43, PySem.W.mg_of X G a43⟩, law := ⟨F44, b44, PySem.W.mg_of X G a44⟩, b_ValueError := PySem.W.mg_none_of X G z0, b_abs := PySem.W.mg_none_of X G z1, b_all := PySem.W.mg_none_of X G z2, b_bool := PySem.W.mg_none_of X G z3, b_int := PySem.W.mg_none_of X G z4, b_isinstance := PySem.W.mg_none_of X G z5, b_len := PySem.W.mg_none_of X G z6, b_list := PySem.W.mg_none_of X G z7, b_max := PySem.W.mg_none_of X G z8, b_range := PySem.W.mg_none_of X G z9, b_str := PySem.W.mg_none_of X G z10, b_tuple := PySem.W.mg_none_of X G z11, k_MOST_LETTERS := ⟨tq0, PySem.W.mg_of X G q0⟩, k_LETTERS := ⟨tq1, PySem.W.mg_of X G q1⟩, k_DEEPEST := ⟨tq2, PySem.W.mg_of X G q2⟩, k_FIGURES := ⟨tq3, PySem.W.mg_of X G q3⟩, k_MOST_FIGURES := ⟨tq4, PySem.W.mg_of X G q4⟩, m_SHAPES := PySem.W.mg_of X G u0, m_NoText := PySem.W.mg_of X G u1, m_PlyError := PySem.W.mg_of X G u2, m_BadWish := PySem.W.mg_of X G u3, m_NoNumber := PySem.W.mg_of X G u4, m_NoPoint := PySem.W.mg_of X G u5, e_NoText := w0, x_NoText := w1, m1 := w2, i0 := w3, i1 := w4, i2 := w5, shapes := sh_mk wS yS y0 y1 y2 y3 y4 y5 }
  exact ⟨PySem.W.fnOf "law" "law" (defArgs s_law) (defBody s_law) (defScope s_law) .none kV44 dc44 pm44 an44 cd44 ct44, fun s v => .of_eq rfl, fun base _ _ => ok_law T⟩
theorem walk {l : PySem.W.OpenLaw} {q : Program} {loose : List Str} {XP : (Str → Option Value) → Heap → Prop} {YP : World → Heap → Prop} {d : DefRec} {K : Params → PySem.W.Frag} (hn : l.most = some 63) (hdf : d.params.defaults = [])
    (hY : ∀ (w : World) (h : Heap), YP w h → (K w.params).In h)
    (F : ∀ (w : World) (mg : Str → Option Value) (fa : Addr) (h : Heap), (K w.params).In h → h.Ns mainGlobals mg → mg d.name = some (.ref fa) →
      ∃ fd : FuncData, (∀ (s : Shared) (u : Value), BindsTo s fd ⟨[u], []⟩ [("_law_script", u)]) ∧ ∀ base : Heap, (K w.params).In base → base.Ns mainGlobals mg → FnOk l.prog w (K w.params) mg base CX0 25 fa fd ["_law_script"] (sp_law (K w.params))) :
    PySem.W.WalkO q loose XP YP l.row.toRowW d [] (fun f vs => PySem.call f vs) :=
  L2.walk_of (n := 63) (k := 25) (x := "_law_script") (CX := fun _ => CX0) (sp := fun w => sp_law (K w.params)) hn (by decide) hdf ⟨rfl, by decide, by decide⟩ hY F (fun _ _ a ns hl _ hS => ⟨a, ns, rfl, hS, hl, fun _ => rfl⟩) fun _ _ _ _ _ z => z
end My
def PySem.W.Fast.tw6359686428410529696 : Nat := 0
def PySem.W.Fast.tw16736518133808809505 : Nat := 0
def PySem.W.Fast.tw11520139063989256924 : Nat := 0
def PySem.W.Fast.tw11830285411151958455 : Nat := 0
def PySem.W.Fast.tw18096969142336091127 : Nat := 0
def PySem.W.Fast.tw17611444954052934444 : Nat := 0
def PySem.W.Fast.tw17663080437548959515 : Nat := 0
def PySem.W.Fast.tw15784734435545716977 : Nat := 0
def PySem.W.Fast.tw657760812891068261 : Nat := 0
def PySem.W.Fast.tw6579070808342322342 : Nat := 0
def PySem.W.Fast.tw3872703323905355212 : Nat := 0
def PySem.W.Fast.tw12992791610370446494 : Nat := 0
def PySem.W.Fast.tw4850129765418058753 : Nat := 0
def PySem.W.Fast.tw1473999919912357157 : Nat := 0
def PySem.W.Fast.tw13478813613606426674 : Nat := 0
def PySem.W.Fast.tw10302850535245600509 : Nat := 0
open PySem PySem.W PyProof.Rows
set_option maxRecDepth 100000 in
set_option maxHeartbeats 0 in
theorem PySem.Challenge.cw_plymap_k94_refused_texts_holds : PySem.Challenge.rw_plymap_k94_refused_texts.Holds := by
  w_on; o_law; k_head; (case hw => w_witness2)
  k_fill
  refine My.walk (l := PySem.Challenge.rw_plymap_k94_refused_texts) rfl rfl (fun w h Y => PySem.W.kIn_of Y) ?F
  case F =>
    intro w mg fa h KX G hmg
    refine' My.all_mk KX G hmg ?u0 ?u1 ?u2 ?u3 ?u4 ?u5 ?a0 ?l0 ?c0 ?k0 ?a1 ?l1 ?c1 ?k1 ?a2 ?l2 ?c2 ?k2 ?a3 ?l3 ?c3 ?k3 ?a4 ?l4 ?c4 ?k4 ?a5 ?l5 ?c5 ?k5 ?a6 ?l6 ?c6 ?k6 ?a7 ?l7 ?c7 ?k7 ?a8 ?l8 ?c8 ?k8 ?a9 ?l9 ?c9 ?k9 ?a10 ?l10 ?c10 ?k10 ?a11 ?l11 ?c11 ?k11 ?a12 ?l12 ?c12 ?k12 ?a13 ?l13 ?c13 ?k13 ?a14 ?l14 ?c14 ?k14 ?a15 ?l15 ?c15 ?k15 ?a16 ?l16 ?c16 ?k16 ?a17 ?l17 ?c17 ?k17 ?a18 ?l18 ?c18 ?k18 ?a19 ?l19 ?c19 ?k19 ?a20 ?l20 ?c20 ?k20 ?a21 ?l21 ?c21 ?k21 ?a22 ?l22 ?c22 ?k22 ?a23 ?l23 ?c23 ?k23 ?a24 ?l24 ?c24 ?k24 ?a25 ?l25 ?c25 ?k25 ?a26 ?l26 ?c26 ?k26 ?a27 ?l27 ?c27 ?k27 ?a28 ?l28 ?c28 ?k28 ?a29 ?l29 ?c29 ?k29 ?a30 ?l30 ?c30 ?k30 ?a31 ?l31 ?c31 ?k31 ?a32 ?l32 ?c32 ?k32 ?a33 ?l33 ?c33 ?k33 ?a34 ?l34 ?c34 ?k34 ?a35 ?l35 ?c35 ?k35 ?a36 ?l36 ?c36 ?k36 ?a37 ?l37 ?c37 ?k37 ?a38 ?l38 ?c38 ?k38 ?a39 ?l39 ?c39 ?k39 ?a40 ?l40 ?c40 ?k40 ?a41 ?l41 ?c41 ?k41 ?a42 ?l42 ?c42 ?k42 ?a43 ?l43 ?c43 ?k43 ?a44 ?l44 ?c44 ?k44 ?z0 ?z1 ?z2 ?z3 ?z4 ?z5 ?z6 ?z7 ?z8 ?z9 ?z10 ?z11 ?q0 ?q1 ?q2 ?q3 ?q4 ?wS ?yS ?y0 ?y1 ?y2 ?y3 ?y4 ?y5 ?w0 ?w1 ?w2 ?w3 ?w4 ?w5
    (case u0 => k_is)
    (case u1 => k_is)
    (case u2 => k_is)
    (case u3 => k_is)
    (case u4 => k_is)
    (case u5 => k_is)
    (case a0 => k_is)
    (case l0 => k_is)
    (case c0 => k_is)
    (case k0 => k_is)
    (case a1 => k_is)
    (case l1 => k_is)
    (case c1 => k_is)
    (case k1 => k_is)
    (case a2 => k_is)
    (case l2 => k_is)
    (case c2 => k_is)
    (case k2 => k_is)
    (case a3 => k_is)
    (case l3 => k_is)
    (case c3 => k_is)
    (case k3 => k_is)
    (case a4 => k_is)
    (case l4 => k_is)
    (case c4 => k_is)
    (case k4 => k_is)
    (case a5 => k_is)
    (case l5 => k_is)
    (case c5 => k_is)
    (case k5 => k_is)
    (case a6 => k_is)
    (case l6 => k_is)
    (case c6 => k_is)
    (case k6 => k_is)
    (case a7 => k_is)
    (case l7 => k_is)
    (case c7 => k_is)
    (case k7 => k_is)
    (case a8 => k_is)
    (case l8 => k_is)
    (case c8 => k_is)
    (case k8 => k_is)
    (case a9 => k_is)
    (case l9 => k_is)
    (case c9 => k_is)
    (case k9 => k_is)
    (case a10 => k_is)
    (case l10 => k_is)
    (case c10 => k_is)
    (case k10 => k_is)
    (case a11 => k_is)
    (case l11 => k_is)
    (case c11 => k_is)
    (case k11 => k_is)
    (case a12 => k_is)
    (case l12 => k_is)
    (case c12 => k_is)
    (case k12 => k_is)
    (case a13 => k_is)
    (case l13 => k_is)
    (case c13 => k_is)
    (case k13 => k_is)
    (case a14 => k_is)
    (case l14 => k_is)
    (case c14 => k_is)
    (case k14 => k_is)
    (case a15 => k_is)
    (case l15 => k_is)
    (case c15 => k_is)
    (case k15 => k_is)
    (case a16 => k_is)
    (case l16 => k_is)
    (case c16 => k_is)
    (case k16 => k_is)
    (case a17 => k_is)
    (case l17 => k_is)
    (case c17 => k_is)
    (case k17 => k_is)
    (case a18 => k_is)
    (case l18 => k_is)
    (case c18 => k_is)
    (case k18 => k_is)
    (case a19 => k_is)
    (case l19 => k_is)
    (case c19 => k_is)
    (case k19 => k_is)
    (case a20 => k_is)
    (case l20 => k_is)
    (case c20 => k_is)
    (case k20 => k_is)
    (case a21 => k_is)
    (case l21 => k_is)
    (case c21 => k_is)
    (case k21 => k_is)
    (case a22 => k_is)
    (case l22 => k_is)
    (case c22 => k_is)
    (case k22 => k_is)
    (case a23 => k_is)
    (case l23 => k_is)
    (case c23 => k_is)
    (case k23 => k_is)
    (case a24 => k_is)
    (case l24 => k_is)
    (case c24 => k_is)
    (case k24 => k_is)
    (case a25 => k_is)
    (case l25 => k_is)
    (case c25 => k_is)
    (case k25 => k_is)
    (case a26 => k_is)
    (case l26 => k_is)
    (case c26 => k_is)
    (case k26 => k_is)
    (case a27 => k_is)
    (case l27 => k_is)
    (case c27 => k_is)
    (case k27 => k_is)
    (case a28 => k_is)
    (case l28 => k_is)
    (case c28 => k_is)
    (case k28 => k_is)
    (case a29 => k_is)
    (case l29 => k_is)
    (case c29 => k_is)
    (case k29 => k_is)
    (case a30 => k_is)
    (case l30 => k_is)
    (case c30 => k_is)
    (case k30 => k_is)
    (case a31 => k_is)
    (case l31 => k_is)
    (case c31 => k_is)
    (case k31 => k_is)
    (case a32 => k_is)
    (case l32 => k_is)
    (case c32 => k_is)
    (case k32 => k_is)
    (case a33 => k_is)
    (case l33 => k_is)
    (case c33 => k_is)
    (case k33 => k_is)
    (case a34 => k_is)
    (case l34 => k_is)
    (case c34 => k_is)
    (case k34 => k_is)
    (case a35 => k_is)
    (case l35 => k_is)
    (case c35 => k_is)
    (case k35 => k_is)
    (case a36 => k_is)
    (case l36 => k_is)
    (case c36 => k_is)
    (case k36 => k_is)
    (case a37 => k_is)
    (case l37 => k_is)
    (case c37 => k_is)
    (case k37 => k_is)
    (case a38 => k_is)
    (case l38 => k_is)
    (case c38 => k_is)
    (case k38 => k_is)
    (case a39 => k_is)
    (case l39 => k_is)
    (case c39 => k_is)
    (case k39 => k_is)
    (case a40 => k_is)
    (case l40 => k_is)
    (case c40 => k_is)
    (case k40 => k_is)
    (case a41 => k_is)
    (case l41 => k_is)
    (case c41 => k_is)
    (case k41 => k_is)
    (case a42 => k_is)
    (case l42 => k_is)
    (case c42 => k_is)
    (case k42 => k_is)
    (case a43 => k_is)
    (case l43 => k_is)
    (case c43 => k_is)
    (case k43 => k_is)
    (case a44 => k_is)
    (case l44 => k_is)
    (case c44 => k_is)
    (case k44 => k_is)
    (case z0 => k_is)
    (case z1 => k_is)
    (case z2 => k_is)
    (case z3 => k_is)
    (case z4 => k_is)
    (case z5 => k_is)
    (case z6 => k_is)
    (case z7 => k_is)
    (case z8 => k_is)
    (case z9 => k_is)
    (case z10 => k_is)
    (case z11 => k_is)
    (case q0 => k_is)
    (case q1 => k_is)
    (case q2 => k_is)
    (case q3 => k_is)
    (case q4 => k_is)
    (case wS => kernel_rfl)
    (case yS => k_is)
    (case y0 => k_is)
    (case y1 => k_is)
    (case y2 => k_is)
    (case y3 => k_is)
    (case y4 => k_is)
    (case y5 => k_is)
    (case w0 => kernel_rfl)
    (case w1 => kernel_rfl)
    (case w2 => kernel_rfl)
    (case w3 => kernel_rfl)
    (case w4 => kernel_rfl)
    (case w5 => kernel_rfl)
