import PyProof.Rows.All
import Wide.All
import OpenK.AllK
import Wide.FinOn
import Lean
import PyProof.EqAt
import PyProof.EqKinds
import PyProof.TupleCall
import PyProof.ZipIter
import PyProof.TupleIter
import PyProof.AttrMiss
import PyProof.TupleKey
import PyProof.DictFindH
import KE.KDictOf
import PyProof.DictIter
import PyProof.DictWalks
import PyProof.ListRange
import KE.KDictList
import PyProof.CompUse
import KE.KTryMore
import PyProof.WalkInts
import KE.KIntText
import PyProof.StrLawsTight
import PyProof.Rows.StrIntSpec
import KE.KxMul
import PySem.Challenge.RW_plymap_k93_wishes
set_option Elab.async false
set_option linter.all false
set_option maxRecDepth 100000
/-! THE HAND LAYER, for ints, bools, texts, own classes, LISTS and tuples (index, slices, in, append, pop ..), calls, loops. Paste it whole ahead of your own text; what your proof does not reach may be deleted. -/
namespace L2
open PySem PySem.Spec PyProof.Rows

/-- a key: an int or a str -/
abbrev Key := Sum Int Str
def keyIs : Key → Value → Bool
  | .inl k, v => Value.isInt k v
  | .inr x, v => Value.isStrOf x v
def keyH (w : World) : Key → Int
  | .inl k => hashInt k
  | .inr x => hashStr w x
theorem keyIs_shape : ∀ {k : Key} {v : Value}, keyIs k v = true → (∃ i t, k = Sum.inl i ∧ v = Value.int i t) ∨ (∃ x t, k = Sum.inr x ∧ v = Value.str x t)
  | .inl i, v, h => by
    obtain ⟨t, e⟩ := Value.isInt_shape (k := i) (v := v) h
    exact .inl ⟨i, t, rfl, e⟩
  | .inr x, v, h => by
    obtain ⟨t, e⟩ := Value.isStrOf_shape (x := x) (v := v) h
    exact .inr ⟨x, t, rfl, e⟩
theorem key_ll (a b : Int) : decide ((Sum.inl a : Key) = Sum.inl b) = (a == b) := by
  by_cases e : a = b
  · subst e; simp
  · have h : ¬ (Sum.inl a : Key) = Sum.inl b := fun q => e (Sum.inl.inj q)
    rw [decide_eq_false h]
    exact (beq_eq_false_iff_ne.mpr e).symm
theorem key_rr (a b : Str) : decide ((Sum.inr a : Key) = Sum.inr b) = decide (a = b) := by
  by_cases e : a = b
  · subst e; simp
  · have h : ¬ (Sum.inr a : Key) = Sum.inr b := fun q => e (Sum.inr.inj q)
    rw [decide_eq_false h, decide_eq_false e]
theorem key_lr (a : Int) (b : Str) : decide ((Sum.inl a : Key) = Sum.inr b) = false := decide_eq_false (fun q => nomatch q)
theorem key_rl (a : Str) (b : Int) : decide ((Sum.inr a : Key) = Sum.inl b) = false := decide_eq_false (fun q => nomatch q)

def mixKind (prog : Program) (w : World) : PySem.KeyKind prog w Key where
  is := keyIs
  hash := keyH w
  inj := fun v a b ha hb => by
    rcases keyIs_shape ha with ⟨i, t, rfl, rfl⟩ | ⟨x, t, rfl, rfl⟩
    · rcases keyIs_shape hb with ⟨j, u, rfl, e⟩ | ⟨y, u, rfl, e⟩
      · injection e with e1 _; rw [e1]
      · exact nomatch e
    · rcases keyIs_shape hb with ⟨j, u, rfl, e⟩ | ⟨y, u, rfl, e⟩
      · exact nomatch e
      · injection e with e1 _; rw [e1]
  byValue := fun k v h => by
    rcases keyIs_shape h with ⟨i, t, rfl, rfl⟩ | ⟨x, t, rfl, rfl⟩ <;> rfl
  pyHash := fun hv h => by
    rcases keyIs_shape hv with ⟨i, t, rfl, rfl⟩ | ⟨x, t, rfl, rfl⟩
    · exact wpAny_pyHash_int h
    · exact wpAny_pyHash_str h
  eqBool := fun hu hv h => by
    rcases keyIs_shape hu with ⟨i, t, rfl, rfl⟩ | ⟨x, t, rfl, rfl⟩
    · rcases keyIs_shape hv with ⟨j, u, rfl, rfl⟩ | ⟨y, u, rfl, rfl⟩
      · rw [key_ll] at h; exact wpAny_eqBool_int h
      · rw [key_lr] at h; exact SeqAt.EqAt.int_str i t y u _ _ _ _ h
    · rcases keyIs_shape hv with ⟨j, u, rfl, rfl⟩ | ⟨y, u, rfl, rfl⟩
      · rw [key_rl] at h; exact SeqAt.EqAt.str_int x t j u _ _ _ _ h
      · rw [key_rr] at h; exact wpAny_eqBool_str h
  «strs» := fun k x t v h => by
    rcases keyIs_shape h with ⟨i, u, rfl, e⟩ | ⟨y, u, rfl, e⟩
    · exact nomatch e
    · injection e with e1 _
      subst e1
      cases v <;> rfl

end L2

namespace L2
open PySem PySem.Spec PyProof.Rows

/-- a value, without the heap -/
inductive V where
  | non | bl (b : Bool) | int (i : Int) | str (x : Str) | byt (b : Array UInt8) | flt (b : UInt64) | ref (a : Addr) | ty (n : String)
  deriving DecidableEq

def RelV : V → Value → Prop
  | .non, u => u = Value.none
  | .bl b, u => u = Value.bool b
  | .int i, u => ∃ t, u = Value.int i t
  | .str x, u => ∃ t, u = Value.str x t
  | .byt b, u => ∃ t, u = Value.bytes b t
  | .flt b, u => ∃ t, u = Value.float b t
  | .ref a, u => u = Value.ref a
  | .ty n, u => u = Value.type n

abbrev Vals : List V → List Value → Prop := Paired RelV
theorem Vals.length {xs : List V} {us : List Value} (r : Vals xs us) : xs.length = us.length := Paired.length r
theorem Vals.get : ∀ {xs : List V} {us : List Value} {i : Nat} {x : V}, Vals xs us → xs[i]? = some x → ∃ u, us[i]? = some u ∧ RelV x u
  | _, _, _, _, .nil, e => by simp at e
  | _, _, 0, _, .cons r _, e => by simp at e; subst e; exact ⟨_, rfl, r⟩
  | _, _, i + 1, x, .cons _ t, e => by
    obtain ⟨u, h1, h2⟩ := Vals.get (i := i) (x := x) t (by simpa using e)
    exact ⟨u, by simpa using h1, h2⟩
theorem Vals.set {x : V} {u : Value} (r : RelV x u) : ∀ {xs : List V} {us : List Value} (i : Nat), Vals xs us → Vals (xs.set i x) (us.set i u)
  | _, _, _, .nil => .nil
  | _, _, 0, .cons _ t => .cons r t
  | _, _, i + 1, .cons q t => .cons q (Vals.set r i t)
theorem Vals.append : ∀ {xs ys : List V} {us ws : List Value}, Vals xs us → Vals ys ws → Vals (xs ++ ys) (us ++ ws)
  | _, _, _, _, .nil, s => s
  | _, _, _, _, .cons r t, s => .cons r (Vals.append t s)
theorem Vals.take : ∀ {xs : List V} {us : List Value} (n : Nat), Vals xs us → Vals (xs.take n) (us.take n)
  | _, _, 0, _ => .nil
  | _, _, _ + 1, .nil => .nil
  | _, _, n + 1, .cons r t => .cons r (Vals.take n t)
theorem Vals.drop : ∀ {xs : List V} {us : List Value} (n : Nat), Vals xs us → Vals (xs.drop n) (us.drop n)
  | _, _, 0, r => r
  | _, _, _ + 1, .nil => .nil
  | _, _, n + 1, .cons _ t => Vals.drop n t

def RelO : Option V → Option Value → Prop
  | some v, some u => RelV v u
  | none, none => True
  | _, _ => False
def KV {κ : Type} : List (κ × V) → List (κ × Value) → Prop := Paired fun (p : κ × V) (q : κ × Value) => p.1 = q.1 ∧ RelV p.2 q.2

/-- a key of a dict (00_mix): an int or a text -/
def kV : Key → V
  | .inl i => .int i
  | .inr x => .str x

/-- what stands at a tracked address -/
inductive HO where
  /-- a list -/
  | lst (xs : List V)
  /-- a tuple (never changes) -/
  | tup (xs : List V)
  /-- a dict whose keys are ints and texts; one whose keys are tuples of ints and texts (the empty one is both) -/
  | dK (kvs : List (Key × V)) | dT (kvs : List (List Key × V))
  /-- a set of ints: its members, its size -/
  | set (S : Int → Bool) (n : Nat)
  /-- an instance of the class at C, its dict at dx, its attributes -/
  | ins (C dx : Addr) (fs : List (Str × V))
  /-- the dict of the instance at x -/
  | own (x : Addr)
  /-- the dict of an exception -/
  | xd (fs : List (Str × V))
  /-- a bound method, f of x -/
  | met (f x : Addr)
  /-- a range object lo, lo + 1, .. below hi -/
  | rng (lo hi : Int)
  /-- a thing that is known to the object (the script; a dict while a loop walks it): read, never written while it is so -/
  | frz (o : Obj) (u : HO)
  /-- a code object's table -/
  | tbl (ps : Array Value)
  /-- any other thing, by what is true of its one object (a def of one's own: SetO a S n := HO.ext fun h => ..) -/
  | ext (φ : Heap → Prop)

abbrev Hp := Addr → Option HO
def upd (H : Hp) (a : Addr) (o : HO) : Hp := fun b => if b = a then some o else H b
theorem upd_same {H : Hp} {a : Addr} {o : HO} : upd H a o a = some o := by unfold upd; rw [if_pos rfl]
theorem upd_ne {H : Hp} {a b : Addr} {o : HO} (h : b ≠ a) : upd H a o b = H b := by unfold upd; rw [if_neg h]
theorem upd_upd {H : Hp} {a : Addr} {o u : HO} : upd (upd H a o) a u = upd H a u := by
  funext b; unfold upd; split <;> rfl
/-- two objects of different content stand apart -/
theorem ne_of {H : Hp} {a b : Addr} {o u : HO} (h : H a = some o) (h' : H b = some u) (d : o ≠ u) : a ≠ b := by
  intro e; subst e; rw [h] at h'; exact d (Option.some.inj h')
theorem ne_of_none {H : Hp} {a b : Addr} {o : HO} (h : H a = some o) (h' : H b = none) : a ≠ b := by
  intro e; subst e; rw [h] at h'; cases h'

section
variable (P : Program) (w : World)
def ObjOk (H : Hp) (h : Heap) (a : Addr) : HO → Prop
  | .lst xs => xs.length ≤ sizeLine ∧ ∃ (its : List Value) (n : Nat), Vals xs its ∧ h.get? a = some { cls := .type "list", data := .seq its.toArray n }
  | .tup xs => xs.length ≤ sizeLine ∧ ∃ its : List Value, Vals xs its ∧ IsTup h a its.toArray
  | .dK kvs => kvs.length ≤ sizeLine ∧ (a == sysModules) = false ∧ ∃ vs, KV kvs vs ∧ h.DictOf (mixKind P w) a vs
  | .dT kvs => kvs.length ≤ sizeLine ∧ (a == sysModules) = false ∧ ∃ xs : List (List Key × Addr × Value),
      Paired (fun (p : List Key × V) (q : List Key × Addr × Value) => p.1 = q.1 ∧ H q.2.1 = some (.tup (p.1.map kV)) ∧ RelV p.2 q.2.2) kvs xs ∧
      ∃ o es ep, h.get? a = some o ∧ o.ExactDict ∧ o.data = .dict es ep ∧ es.toList = xs.map (entryOfKey (tupleKind (mixKind P w))) ∧ (xs.map (·.1)).Nodup
  | .set S n => h.SetOf (intKind P w) a S n
  | .ins C dx fs => H dx = some (.own a) ∧ fs.length ≤ 1000 ∧ dx ≠ a ∧ h.get? a = some (PySem.W.instObj C dx) ∧
      ∃ mA, h.Ns1 dx mA ∧ (∀ f, RelO (fs.lookup f) (mA f)) ∧ PySem.Within mA (fs.map (·.1))
  | .own _ => ∃ o, h.get? a = some o
  | .xd fs => ∃ mA, h.Ns1 a mA ∧ ∀ f, RelO (fs.lookup f) (mA f)
  | .rng lo hi => ∃ t u v, h.get? a = some { cls := .type "range", data := .fields #[.int lo t, .int hi u, .int 1 v] }
  | .frz o u => h.get? a = some o ∧ ObjOk H h a u
  | .tbl ps => h.get? a = some { cls := .none, data := .fields ps }
  | .met f x => h.get? a = some (PySem.W.methodObj (.ref f) (.ref x))
  | .ext φ => φ h ∧ (∃ o, h.get? a = some o) ∧ ∀ h1 h2 : Heap, φ h1 → (∀ o, h1.get? a = some o → h2.get? a = some o) → φ h2
/-- the abstract heap is held -/
def HOk (H : Hp) (h : Heap) : Prop := ∀ a o, H a = some o → ObjOk P w H h a o
end

section
variable {P : Program} {w : World} {H H' : Hp} {h h' : Heap} {a : Addr} {o : HO}
theorem ObjOk.lt (x : ObjOk P w H h a o) : a < h.objs.size := by
  cases o with
  | lst xs => obtain ⟨_, _, _, _, e⟩ := x; exact Heap.lt_size e
  | tup xs => obtain ⟨_, _, _, p⟩ := x; exact p.lt
  | dK kvs => obtain ⟨_, _, _, _, o, _, _, e, _⟩ := x; exact Heap.lt_size e
  | dT kvs => obtain ⟨_, _, _, _, o, _, _, e, _⟩ := x; exact Heap.lt_size e
  | set S n => obtain ⟨o, _, _, _, e, _⟩ := x; exact Heap.lt_size e
  | ins C dx fs => obtain ⟨_, _, _, e, _⟩ := x; exact Heap.lt_size e
  | own y => obtain ⟨_, e⟩ := x; exact Heap.lt_size e
  | xd fs => obtain ⟨_, ⟨_, _, _, e, _⟩, _⟩ := x; exact Heap.lt_size e
  | rng lo hi => obtain ⟨_, _, _, e⟩ := x; exact Heap.lt_size e
  | frz ob u => obtain ⟨e, _⟩ := x; exact Heap.lt_size e
  | tbl ps => exact Heap.lt_size (show h.get? a = some _ from x)
  | met f y => exact Heap.lt_size (show h.get? a = some _ from x)
  | ext φ => obtain ⟨_, ⟨_, e⟩, _⟩ := x; exact Heap.lt_size e
theorem Paired.mapP {α β : Type} {F G : α → β → Prop} : ∀ {l₁ : List α} {l₂ : List β}, Paired F l₁ l₂ → (∀ a b, F a b → G a b) → Paired G l₁ l₂
  | _, _, .nil, _ => .nil
  | _, _, .cons r t, f => .cons (f _ _ r) (Paired.mapP t f)
/-- what an object's description leans on: its own object, its own dict, the tuples -/
theorem ObjOk.stay (x : ObjOk P w H h a o) (k : ∀ b u, (b = a ∨ H b = some (.own a)) → h.get? b = some u → h'.get? b = some u)
    (ho : ∀ b, H b = some (.own a) → H' b = some (.own a)) (ht : ∀ b xs, H b = some (.tup xs) → H' b = some (.tup xs)) : ObjOk P w H' h' a o := by
  induction o with
  | lst xs => obtain ⟨z, its, n, r, e⟩ := x; exact ⟨z, its, n, r, k _ _ (.inl rfl) e⟩
  | tup xs => obtain ⟨z, its, r, ob, e, c⟩ := x; exact ⟨z, its, r, ob, k _ _ (.inl rfl) e, c⟩
  | dK kvs => obtain ⟨z, y, vs, r, ob, es, ep, e, c⟩ := x; exact ⟨z, y, vs, r, ob, es, ep, k _ _ (.inl rfl) e, c⟩
  | dT kvs =>
    obtain ⟨z, y, xs, r, ob, es, ep, e, c⟩ := x
    exact ⟨z, y, xs, Paired.mapP r fun p q z => ⟨z.1, ht _ _ z.2.1, z.2.2⟩, ob, es, ep, k _ _ (.inl rfl) e, c⟩
  | set S n => obtain ⟨ob, es, ep, t, e, c⟩ := x; exact ⟨ob, es, ep, t, k _ _ (.inl rfl) e, c⟩
  | ins C dx fs =>
    obtain ⟨d, z, ne, e, mA, ⟨od, es, ep, e2, c⟩, r⟩ := x
    exact ⟨ho _ d, z, ne, k _ _ (.inl rfl) e, mA, ⟨od, es, ep, k _ _ (.inr d) e2, c⟩, r⟩
  | own y => obtain ⟨ob, e⟩ := x; exact ⟨ob, k _ _ (.inl rfl) e⟩
  | xd fs => obtain ⟨mA, ⟨od, es, ep, e, c⟩, r⟩ := x; exact ⟨mA, ⟨od, es, ep, k _ _ (.inl rfl) e, c⟩, r⟩
  | rng lo hi => obtain ⟨t, u, v, e⟩ := x; exact ⟨t, u, v, k _ _ (.inl rfl) e⟩
  | frz ob u ih => obtain ⟨e, q⟩ := x; exact ⟨k _ _ (.inl rfl) e, ih q⟩
  | tbl ps =>
    have e : h.get? a = some { cls := .none, data := .fields ps } := x
    show h'.get? a = some { cls := .none, data := .fields ps }
    exact k a _ (.inl rfl) e
  | met f y =>
    have e : h.get? a = some (PySem.W.methodObj (.ref f) (.ref y)) := x
    show h'.get? a = some (PySem.W.methodObj (.ref f) (.ref y))
    exact k a _ (.inl rfl) e
  | ext φ => obtain ⟨p, ⟨o, e⟩, st⟩ := x; exact ⟨st _ _ p fun o q => k _ _ (.inl rfl) q, ⟨o, k _ _ (.inl rfl) e⟩, st⟩
theorem HOk.lt (x : HOk P w H h) (e : H a = some o) : a < h.objs.size := (x a o e).lt
theorem HOk.fresh (x : HOk P w H h) (e : h.objs.size ≤ a) : H a = none := by
  cases q : H a with
  | none => rfl
  | some u => exact absurd (Nat.lt_of_lt_of_le (x.lt q) e) (Nat.lt_irrefl _)
/-- every object of the heap is kept -/
theorem HOk.kept (x : HOk P w H h) (k : ∀ b u, h.get? b = some u → h'.get? b = some u) : HOk P w H h' := fun a o e =>
  (x a o e).stay (fun b u _ q => k b u q) (fun _ q => q) fun _ _ q => q
/-- a new object is laid and tracked -/
theorem HOk.laid (x : HOk P w H h) (k : ∀ b u, h.get? b = some u → h'.get? b = some u) (hp : h.objs.size ≤ a) (new : ObjOk P w (upd H a o) h' a o) : HOk P w (upd H a o) h' := fun b u e => by
  have hn := x.fresh hp
  by_cases hb : b = a
  · subst hb; rw [upd_same] at e; cases e; exact new
  · rw [upd_ne hb] at e
    exact (x b u e).stay (fun c v _ q => k c v q) (fun c q => by rw [upd_ne (ne_of_none q hn)]; exact q) fun c xs q => by rw [upd_ne (ne_of_none q hn)]; exact q
end

/-- what may be read as u: it is u, or a known u -/
def Rd (H : Hp) (a : Addr) (u : HO) : Prop := H a = some u ∨ ∃ o, H a = some (.frz o u)
theorem Rd.ok {P : Program} {w : World} {H : Hp} {h : Heap} {a : Addr} {u : HO} (r : Rd H a u) (x : HOk P w H h) : ObjOk P w H h a u := by
  rcases r with r | ⟨o, r⟩
  · exact x a u r
  · obtain ⟨_, q⟩ := x a _ r
    exact q
/-- what may be written -/
def Mut : Option HO → Prop
  | some (.lst _) => True
  | some (.dK _) => True
  | some (.dT _) => True
  | some (.set _ _) => True
  | some (.ins _ _ _) => True
  | some (.ext _) => True
  | _ => False
section
variable {P : Program} {w : World} {H : Hp} {h h' : Heap} {x e : Addr} {o' : HO}
/-- the object at e is changed: x itself, or the dict of the instance x -/
theorem HOk.write (ok : HOk P w H h) (mu : Mut (H x)) (he : e = x ∨ H e = some (.own x)) (k : ∀ b u, b ≠ e → h.get? b = some u → h'.get? b = some u) (heo : ∃ u, h'.get? e = some u)
    (new : ObjOk P w (upd H x o') h' x o') : HOk P w (upd H x o') h' := fun b u q => by
  have nown : ∀ c y, H c = some (.own y) → c ≠ x := fun c y r z => by subst z; rw [r] at mu; exact mu
  have ntup : ∀ c xs, H c = some (.tup xs) → c ≠ x := fun c xs r z => by subst z; rw [r] at mu; exact mu
  by_cases hb : b = x
  · subst hb; rw [upd_same] at q; cases q; exact new
  · rw [upd_ne hb] at q
    by_cases hbe : b = e
    · have q' : H b = some (.own x) := by
        rcases he with z | z
        · exact absurd (hbe.trans z) hb
        · rw [hbe]; exact z
      rw [q] at q'; cases q'
      obtain ⟨v, hv⟩ := heo
      exact ⟨v, by rw [hbe]; exact hv⟩
    · refine (ok b u q).stay (fun c v hc r => k c v ?_ r) (fun c r => by rw [upd_ne (nown c b r)]; exact r) fun c xs r => by rw [upd_ne (ntup c xs r)]; exact r
      rcases hc with rfl | hc
      · exact hbe
      · rintro rfl
        rcases he with z | z
        · exact nown c b hc z
        · rw [hc] at z; cases z; exact hb rfl
end

/-! ### kept unless tracked; of the frames at fs (the callers') the slots may change (an exception that passes writes there); of the records at ex (iterators) nothing is said -/
structure Un (fs ex : List Addr) (H H' : Hp) (h h' : Heap) : Prop where
  keep : ∀ b o, h.get? b = some o → H b = none → b ∉ fs → b ∉ ex → h'.get? b = some o
  slot : ∀ b o, h.get? b = some o → H b = none → b ∈ fs → b ∉ ex → ∃ sl, h'.get? b = some { o with slots := sl }
  free : ∀ b o, h.get? b = some o → H b = none → b ∉ ex → H' b = none
  there : ∀ b o, h.get? b = some o → b ∉ ex → ∃ o', h'.get? b = some o'
  tups : ∀ b xs, H b = some (.tup xs) → H' b = some (.tup xs)
  frzs : ∀ b o u, H b = some (.frz o u) → H' b = some (.frz o u)
  tbls : ∀ b ps, H b = some (.tbl ps) → ∃ more, H' b = some (.tbl (ps ++ more))
section
variable {fs fs' ex ex' : List Addr} {H H1 H2 : Hp} {h h1 h2 h' : Heap} {a x e : Addr} {o : HO}
theorem Un.any (u : Un fs ex H H1 h h1) {b : Addr} {ob : Obj} (q : h.get? b = some ob) (n : H b = none) (hx : b ∉ ex) : ∃ sl, h1.get? b = some { ob with slots := sl } := by
  by_cases hb : b ∈ fs
  · exact u.slot b ob q n hb hx
  · exact ⟨ob.slots, u.keep b ob q n hb hx⟩
theorem Un.kept (k : ∀ b u, h.get? b = some u → h'.get? b = some u) : Un fs ex H H h h' :=
  ⟨fun b ob q _ _ _ => k b ob q, fun b ob q _ _ _ => ⟨ob.slots, k b ob q⟩, fun _ _ _ n _ => n, fun b ob q _ => ⟨ob, k b ob q⟩, fun _ _ q => q, fun _ _ _ q => q, fun _ ps q => ⟨#[], by rw [q]; simp⟩⟩
theorem Un.refl : Un fs ex H H h h := Un.kept fun _ _ q => q
theorem Un.laid (k : ∀ b u, h.get? b = some u → h'.get? b = some u) (hp : h.objs.size ≤ a) (hn : H a = none) : Un fs ex H (upd H a o) h h' where
  keep := fun b u q _ _ _ => k b u q
  slot := fun b u q _ _ _ => ⟨u.slots, k b u q⟩
  free := fun b u q n _ => by rw [upd_ne (Nat.ne_of_lt (Nat.lt_of_lt_of_le (Heap.lt_size q) hp))]; exact n
  there := fun b u q _ => ⟨u, k b u q⟩
  tups := fun b xs q => by rw [upd_ne (ne_of_none q hn)]; exact q
  frzs := fun b u xs q => by rw [upd_ne (ne_of_none q hn)]; exact q
  tbls := fun b ps q => ⟨#[], by rw [upd_ne (ne_of_none q hn), q]; simp⟩
theorem Un.write (mu : Mut (H x)) (he : e = x ∨ H e = some (.own x)) (k : ∀ b u, b ≠ e → h.get? b = some u → h'.get? b = some u) (heo : ∃ u, h'.get? e = some u) : Un fs ex H (upd H x o) h h' := by
  have hx : ∀ b, H b = none → b ≠ x := fun b n z => by subst z; rw [n] at mu; exact mu
  have hb : ∀ b, H b = none → b ≠ e := fun b n z => by
    subst z
    rcases he with r | r
    · exact hx b n r
    · rw [n] at r; cases r
  have hm : ∀ b u, H b = some u → ¬ Mut (some u) → b ≠ x := fun b u q nm z => by subst z; rw [q] at mu; exact nm mu
  refine ⟨fun b u q n _ _ => k b u (hb b n) q, fun b u q n _ _ => ⟨u.slots, k b u (hb b n) q⟩, fun b u q n _ => by rw [upd_ne (hx b n)]; exact n, fun b u q _ => ?_,
    fun b xs q => by rw [upd_ne (hm b _ q fun z => z)]; exact q, fun b u xs q => by rw [upd_ne (hm b _ q fun z => z)]; exact q, fun b ps q => ⟨#[], by rw [upd_ne (hm b _ q fun z => z), q]; simp⟩⟩
  by_cases hbe : b = e
  · subst hbe; exact heo
  · exact ⟨u, k b u hbe q⟩
end

/-! ### the heap without what is tracked -/
def trk (h : Heap) (H : Hp) : List Addr := (List.range h.objs.size).filter fun a => (H a).isSome
def hidT (h : Heap) (H : Hp) : Heap := PySem.W.hideAll h (trk h H)
theorem hidT_size (h : Heap) (H : Hp) : (hidT h H).objs.size = h.objs.size := PySem.W.hideAll_size _ _
theorem hidT_get {h : Heap} {H : Hp} {b : Addr} {o : Obj} (e : h.get? b = some o) (n : H b = none) : (hidT h H).get? b = some o :=
  PySem.W.hideAll_get _ e fun hm => by
    have q : (H b).isSome = true := (List.mem_filter.mp hm).2
    rw [n] at q; simp at q
theorem of_hidT {h : Heap} {H : Hp} {b : Addr} {o : Obj} (e : (hidT h H).get? b = some o) : h.get? b = some o ∧ H b = none := by
  have e' : h.get? b = some o := PySem.W.of_hideAll (trk h H) e
  refine ⟨e', ?_⟩
  cases q : H b with
  | none => rfl
  | some x =>
    have hm : b ∈ trk h H := List.mem_filter.mpr ⟨List.mem_range.mpr (Heap.lt_size e'), by simp [q]⟩
    have z : (hidT h H).get? b = none := PySem.W.hideAll_none (trk h H) hm
    rw [z] at e; cases e

/-! ### OpenK's ledger, filled with every new object but one -/
end L2

namespace L2
open PySem PySem.Spec PyProof.Rows

/-- the module's facts, over the base: the heap at the law's entry without what is tracked there -/
structure Mod (K : PySem.W.Frag) (mg : Str → Option Value) (base : Heap) : Prop where
  kin : K.In base
  glob : base.Ns mainGlobals mg
  blt : ∃ mb, base.Ns builtinsNs mb ∧ ∀ x : Str, x ≠ "__name__" → mb x = bootBuiltins x
  nolimit : base.NoLimit

/-- the context: a def's body (or a comprehension's block) running. base: fixed through the whole law; s₀, H₀: the entry; outer: the frames whose slots others may change (a def's callers); stack: all frames that run;
   ex: iterators that were made ahead of the entry and are walked here (a comprehension's); fn: the names whose cells were made at the entry (a def: all; a comprehension's block: its own); calm: not within an except suite; pn: pins that every state bears; xe: what is wanted of an exception that leaves the code -/
structure Cx where
  prog : Program
  w : World
  K : PySem.W.Frag
  mg : Str → Option Value
  base : Heap
  A : Around
  N : List Str
  s₀ : Shared
  H₀ : Hp
  env : Env
  outer : List Env
  stack : List Env
  ex : List Addr
  fn : Str → Bool
  calm : Bool
  pn : List (Addr × Obj)
  xe : Value → Shared → Prop
/-- the callers' frames -/
def frs (l : List Env) : List Addr := l.filterMap (·.frame)
abbrev Cx.fs (X : Cx) : List Addr := frs X.outer

def Vis (sc : Scope) (x : Str) : Prop := sc.names.lookup x = some .local ∨ sc.names.lookup x = some .cell ∨ sc.names.lookup x = some .free
def Loc (sc : Scope) (x : Str) : Prop := sc.names.lookup x = some .local ∨ sc.names.lookup x = some .cell
def Look (env : Env) (h : Heap) (m : Str → Option Value) (x : Str) (u : Value) : Prop :=
  (env.kindOf x = some .local ∧ m x = some u) ∨ ((env.kindOf x = some .cell ∨ env.kindOf x = some .free) ∧ ∃ c, env.cells.lookup x = some c ∧ h.IsCell c (some u))

structure Cx.Ok (X : Cx) : Prop where
  mod : Mod X.K X.mg X.base
  kind : X.env.scope.kind = .function
  glob : X.env.globals = mainGlobals
  blt : X.env.builtins = builtinsNs
  above : X.s₀.heap.objs.size ≤ X.env.locals
  inj : ∀ x y c, X.env.cells.lookup x = some c → X.env.cells.lookup y = some c → x = y
  has : ∀ x, (X.env.kindOf x = some .cell ∨ X.env.kindOf x = some .free) → ∃ c, X.env.cells.lookup x = some c
  cab : ∀ x c, X.fn x = true → X.env.cells.lookup x = some c → X.s₀.heap.objs.size ≤ c
  hd : X.calm = true → X.A.handled = none
  frames : X.A.frames = some X.stack
  stk : X.stack = X.outer ∨ (X.stack = X.env :: X.outer ∧ X.env.frame = some X.env.locals)
  exf : ∀ b ∈ X.ex, b ≠ X.env.locals ∧ ∀ x c, X.env.cells.lookup x = some c → c ≠ b
  bs : ∀ b o, X.base.get? b = some o → X.s₀.heap.get? b = some o ∧ X.H₀ b = none
  bsz : X.base.objs.size ≤ X.s₀.heap.objs.size
  noex : ∀ b o, X.base.get? b = some o → b ∉ X.ex
  exfs : ∀ b ∈ X.ex, b ∉ X.fs
  funs : X.s₀.heap.FunFrames X.base X.outer
  frf : ∀ b ∈ X.fs, X.H₀ b = none

structure Inv (X : Cx) (pins : List (Addr × Obj)) (σ : List (Option V)) (H : Hp) (s : Shared) : Prop where
  ok : X.Ok
  os : s.os = X.s₀.os
  bare : AllBare s.gens
  base : Un X.fs X.ex X.H₀ H X.s₀.heap s.heap
  loc : ∃ m, s.heap.Ns X.env.locals m ∧ ∀ (i : Nat) (x : Str) (v : V), X.N[i]? = some x → σ[i]? = some (some v) → Vis X.env.scope x → ∃ u, RelV v u ∧ Look X.env s.heap m x u
  cell : ∀ x c, X.env.cells.lookup x = some c → ∃ v, s.heap.IsCell c v
  free : H X.env.locals = none
  freeC : ∀ x c, X.env.cells.lookup x = some c → H c = none
  pin : ∀ p ∈ X.pn ++ pins, s.heap.get? p.1 = some p.2 ∧ H p.1 = none ∧ p.1 ≠ X.env.locals ∧ p.1 ∉ X.fs ∧ ∀ v, p.2.data ≠ .cell v
  hok : HOk X.prog X.w H s.heap
  len : σ.length = X.N.length

section
variable {X : Cx} {pins : List (Addr × Obj)} {σ : List (Option V)} {H H' : Hp} {s : Shared} {h' : Heap}

theorem Cx.Ok.nofr (ok : X.Ok) {b : Addr} {o : Obj} (e : X.base.get? b = some o) : b ∉ X.fs := fun hb => by
  have := (ok.funs.mem hb).1
  rw [e] at this; cases this
theorem Inv.bs (I : Inv X pins σ H s) : ∀ b o, X.base.get? b = some o → s.heap.get? b = some o ∧ H b = none := fun b o e =>
  ⟨I.base.keep b o (I.ok.bs b o e).1 (I.ok.bs b o e).2 (I.ok.nofr e) (I.ok.noex b o e), I.base.free b o (I.ok.bs b o e).1 (I.ok.bs b o e).2 (I.ok.noex b o e)⟩
theorem Inv.bk (I : Inv X pins σ H s) : ∀ b o, X.base.get? b = some o → s.heap.get? b = some o := fun b o e => (I.bs b o e).1
theorem Inv.mod (I : Inv X pins σ H s) : Mod X.K X.mg X.base := I.ok.mod
theorem Inv.kIn (I : Inv X pins σ H s) : X.K.In s.heap := I.ok.mod.kin.keeps I.bk
theorem Inv.lt (I : Inv X pins σ H s) : X.env.locals < s.heap.objs.size := let ⟨_, hn, _⟩ := I.loc; hn.lt
theorem Inv.sz (I : Inv X pins σ H s) : X.s₀.heap.objs.size ≤ s.heap.objs.size := Nat.le_trans I.ok.above (Nat.le_of_lt I.lt)
theorem Inv.nofs (I : Inv X pins σ H s) {a : Addr} (h : s.heap.objs.size ≤ a) : a ∉ X.fs := fun hb => by
  obtain ⟨_, o, ho, _⟩ := I.ok.funs.mem hb
  exact absurd (Nat.lt_of_lt_of_le (Heap.lt_size ho) (Nat.le_trans I.sz h)) (Nat.lt_irrefl _)
theorem Inv.cne (I : Inv X pins σ H s) : ∀ x c, X.env.cells.lookup x = some c → c ≠ X.env.locals := fun x c e z => by
  obtain ⟨v, o, ho, hd⟩ := I.cell x c e
  obtain ⟨m, ⟨o', es, ep, ho', hd', _⟩, _⟩ := I.loc
  rw [z, ho'] at ho; cases ho; rw [hd'] at hd; cases hd
theorem Inv.funs (I : Inv X pins σ H s) : s.heap.FunFrames X.base X.outer := by
  have all : ∀ (l : List Env), (∀ b ∈ frs l, b ∈ X.fs) → X.s₀.heap.FunFrames X.base l → s.heap.FunFrames X.base l := by
    intro l
    induction l with
    | nil => intro _ _; trivial
    | cons env r ih =>
      intro hs hl
      obtain ⟨hk, ⟨L, o, hf, hn, ho, hd⟩, hr⟩ := hl
      have hL : L ∈ X.fs := hs L (by unfold frs; rw [List.filterMap_cons, hf]; exact List.mem_cons_self)
      obtain ⟨sl, e⟩ := I.base.slot L o ho (I.ok.frf L hL) hL fun z => I.ok.exfs L z hL
      exact ⟨hk, ⟨L, _, hf, hn, e, hd⟩, ih (fun b hb => hs b (by unfold frs; rw [List.filterMap_cons, hf]; exact List.mem_cons_of_mem _ hb)) hr⟩
  exact all X.outer (fun _ hb => hb) I.ok.funs

/-- the frames that run, for a call -/
theorem Inv.stack (I : Inv X pins σ H s) : s.heap.FunFrames X.base X.stack := by
  rcases I.ok.stk with e | ⟨e, hf⟩
  · rw [e]; exact I.funs
  · rw [e]
    obtain ⟨m, hn, _⟩ := I.loc
    refine .cons (by rw [I.ok.kind]; decide) hf hn ?_ I.funs
    exact Heap.get?_none_of_le (Nat.le_trans I.ok.bsz I.ok.above)
theorem Inv.stkSub (I : Inv X pins σ H s) : ∀ b ∈ frs X.stack, b ∈ X.env.locals :: X.fs := fun b hb => by
  rcases I.ok.stk with e | ⟨e, hf⟩
  · rw [e] at hb; exact List.mem_cons_of_mem _ hb
  · rw [e] at hb
    unfold frs at hb
    rw [List.filterMap_cons, hf] at hb
    exact hb
theorem Inv.stkFree (I : Inv X pins σ H s) : ∀ b ∈ frs X.stack, H b = none := fun b hb => by
  rcases List.mem_cons.mp (I.stkSub b hb) with e | hb
  · rw [e]; exact I.free
  · obtain ⟨_, o, ho, _⟩ := I.ok.funs.mem hb
    exact I.base.free b o ho (I.ok.frf b hb) fun z => I.ok.exfs b z hb

/-- THE STEP: the untracked objects but the frame and the records at ch are kept (the callers' frames up to slots), the frame's map is kept, the new abstract heap is held -/
theorem Inv.step {g' : Array GenState} {t' : Nat} {d' : Drawn} {ch : List Addr} (I : Inv X pins σ H s)
    (hch : ∀ b ∈ ch, (b ∈ X.ex ∨ X.s₀.heap.objs.size ≤ b) ∧ b ≠ X.env.locals ∧ (∀ x c, X.env.cells.lookup x = some c → c ≠ b) ∧ ∀ p ∈ X.pn ++ pins, p.1 ≠ b)
    (keep : ∀ b o, b ≠ X.env.locals → b ∉ X.fs → b ∉ ch → s.heap.get? b = some o → H b = none → h'.get? b = some o)
    (slot : ∀ b o, b ≠ X.env.locals → b ∈ X.fs → b ∉ ch → s.heap.get? b = some o → H b = none → ∃ sl, h'.get? b = some { o with slots := sl }) (free : ∀ b o, b ∉ ch → s.heap.get? b = some o → H b = none → H' b = none)
    (there : ∀ b o, b ∉ ch → s.heap.get? b = some o → ∃ o', h'.get? b = some o')
    (tups : ∀ b xs, H b = some (.tup xs) → H' b = some (.tup xs)) (frzs : ∀ b o u, H b = some (.frz o u) → H' b = some (.frz o u)) (tbls : ∀ b ps, H b = some (.tbl ps) → ∃ more, H' b = some (.tbl (ps ++ more)))
    (ns : ∀ m, s.heap.Ns X.env.locals m → h'.Ns X.env.locals m) (hok : HOk X.prog X.w H' h') (hg : AllBare g') :
    Inv X pins σ H' { s with heap := h', gens := g', drawn := d', toks := t' } := by
  have neL : ∀ b o, X.s₀.heap.get? b = some o → b ≠ X.env.locals := fun b o e => Nat.ne_of_lt (Nat.lt_of_lt_of_le (Heap.lt_size e) I.ok.above)
  have neC : ∀ b o, X.s₀.heap.get? b = some o → b ∉ X.ex → b ∉ ch := fun b o e hx hb => by
    rcases (hch b hb).1 with z | z
    · exact hx z
    · exact absurd (Nat.lt_of_lt_of_le (Heap.lt_size e) z) (Nat.lt_irrefl _)
  have cellK : ∀ x c, X.env.cells.lookup x = some c → ∀ v, s.heap.IsCell c v → h'.IsCell c v := fun x c e v ⟨o, ho, hd⟩ => by
    have nch : c ∉ ch := fun z => (hch c z).2.2.1 x c e rfl
    by_cases hc : c ∈ X.fs
    · obtain ⟨sl, q⟩ := slot c o (I.cne x c e) hc nch ho (I.freeC x c e)
      exact ⟨_, q, hd⟩
    · exact ⟨o, keep c o (I.cne x c e) hc nch ho (I.freeC x c e), hd⟩
  refine ⟨I.ok, I.os, hg, ⟨fun b o e n hb hx => ?_, fun b o e n hb hx => ?_, fun b o e n hx => ?_, fun b o e hx => ?_, fun b xs e => tups b xs (I.base.tups b xs e), fun b o xs e => frzs b o xs (I.base.frzs b o xs e), fun b ps e => ?_⟩, ?_, fun x c e => ?_, ?_, fun x c e => ?_, fun p hp => ?_, hok, I.len⟩
  · exact keep b o (neL b o e) hb (neC b o e hx) (I.base.keep b o e n hb hx) (I.base.free b o e n hx)
  · obtain ⟨sl, e1⟩ := I.base.slot b o e n hb hx
    obtain ⟨sl', e2⟩ := slot b _ (neL b o e) hb (neC b o e hx) e1 (I.base.free b o e n hx)
    exact ⟨sl', e2⟩
  · obtain ⟨o', e1⟩ := I.base.there b o e hx
    exact free b o' (neC b o e hx) e1 (I.base.free b o e n hx)
  · obtain ⟨o', e1⟩ := I.base.there b o e hx
    exact there b o' (neC b o e hx) e1
  · obtain ⟨m1, e1⟩ := I.base.tbls b ps e
    obtain ⟨m2, e2⟩ := tbls b _ e1
    exact ⟨m1 ++ m2, by rw [e2, Array.append_assoc]⟩
  · obtain ⟨m, hn, hl⟩ := I.loc
    refine ⟨m, ns m hn, fun i x v e1 e2 e3 => ?_⟩
    obtain ⟨u, r, l⟩ := hl i x v e1 e2 e3
    refine ⟨u, r, ?_⟩
    rcases l with l | ⟨k, c, e, z⟩
    · exact .inl l
    · exact .inr ⟨k, c, e, cellK x c e _ z⟩
  · obtain ⟨v, z⟩ := I.cell x c e
    exact ⟨v, cellK x c e v z⟩
  · obtain ⟨m, ⟨o, _, _, ho, _⟩, _⟩ := I.loc
    exact free _ o (fun z => (hch _ z).2.1 rfl) ho I.free
  · obtain ⟨v, o, ho, hd⟩ := I.cell x c e
    exact free c o (fun z => (hch c z).2.2.1 x c e rfl) ho (I.freeC x c e)
  · obtain ⟨e, n, ne, nf, d⟩ := I.pin p hp
    have nch : p.1 ∉ ch := fun z => (hch p.1 z).2.2.2 p hp rfl
    exact ⟨keep p.1 p.2 ne nf nch e n, free p.1 p.2 nch e n, ne, nf, d⟩
/-- .. where the frame's own object is kept too -/
theorem Inv.un {t' : Nat} (I : Inv X pins σ H s) (u : Un X.fs [] H H' s.heap h') (hok : HOk X.prog X.w H' h') : Inv X pins σ H' { s with heap := h', toks := t' } := by
  obtain ⟨m, ⟨o, es, ep, ho, r⟩, _⟩ := id I.loc
  obtain ⟨sl, hL⟩ := u.any ho I.free (by simp)
  exact I.step (g' := s.gens) (d' := s.drawn) (ch := []) (fun _ z => nomatch z) (fun b o _ hb _ e n => u.keep b o e n hb (by simp)) (fun b o _ hb _ e n => u.slot b o e n hb (by simp)) (fun b o _ e n => u.free b o e n (by simp)) (fun b o _ e => u.there b o e (by simp)) u.tups u.frzs u.tbls (fun m' hm => by
    obtain ⟨o', es', ep', ho', r'⟩ := hm
    rw [ho] at ho'; cases ho'
    exact ⟨_, es', ep', hL, r'⟩) hok I.bare
/-- behind a call (or a comprehension's block): the slots of this frame may have changed too, the records at ch may have turned -/
theorem Inv.call {g' : Array GenState} {t' : Nat} {d' : Drawn} {ch : List Addr} (I : Inv X pins σ H s) (u : Un (frs X.stack) ch H H' s.heap h') (hok : HOk X.prog X.w H' h') (hg : AllBare g')
    (hch : ∀ b ∈ ch, (b ∈ X.ex ∨ X.s₀.heap.objs.size ≤ b) ∧ b ≠ X.env.locals ∧ (∀ x c, X.env.cells.lookup x = some c → c ≠ b) ∧ ∀ p ∈ X.pn ++ pins, p.1 ≠ b) :
    Inv X pins σ H' { s with heap := h', gens := g', drawn := d', toks := t' } := by
  obtain ⟨m, ⟨o, es, ep, ho, r⟩, _⟩ := id I.loc
  obtain ⟨sl, hL⟩ := u.any ho I.free fun z => (hch _ z).2.1 rfl
  exact I.step (ch := ch) hch (fun b o hL hb hc e n => u.keep b o e n (fun z => (List.mem_cons.mp (I.stkSub b z)).elim hL hb) hc) (fun b o _ _ hc e n => u.any e n hc) (fun b o hc e n => u.free b o e n hc) (fun b o hc e => u.there b o e hc) u.tups u.frzs u.tbls (fun m' hm => by
    obtain ⟨o', es', ep', ho', r'⟩ := hm
    rw [ho] at ho'; cases ho'
    exact ⟨_, es', ep', hL, r'⟩) hok hg
/-- an untracked record of ours (an iterator) has turned -/
theorem Inv.turned {t' : Nat} {it : Addr} (I : Inv X pins σ H s) (k : ∀ b o, b ≠ it → s.heap.get? b = some o → h'.get? b = some o) (hn : H it = none) (hL : it ≠ X.env.locals)
    (h1 : it ∈ X.ex ∨ X.s₀.heap.objs.size ≤ it) (h2 : ∀ x c, X.env.cells.lookup x = some c → c ≠ it) (h3 : ∀ p ∈ X.pn ++ pins, p.1 ≠ it) : Inv X pins σ H { s with heap := h', toks := t' } := by
  have nit : ∀ b u, H b = some u → b ≠ it := fun b u e z => by rw [z, hn] at e; cases e
  refine I.step (g' := s.gens) (d' := s.drawn) (ch := [it]) (fun b hb => ?_) (fun b o _ _ hc e _ => k b o (fun z => hc (by simp [z])) e) (fun b o _ _ hc e _ => ⟨o.slots, k b o (fun z => hc (by simp [z])) e⟩) (fun _ _ _ _ n => n)
    (fun b o hc e => ⟨o, k b o (fun z => hc (by simp [z])) e⟩) (fun _ _ e => e) (fun _ _ _ e => e) (fun b ps e => ⟨#[], by rw [e]; simp⟩) (fun m hm => ?_) (fun b u e => ?_) I.bare
  · have e : b = it := by simpa using hb
    subst e
    exact ⟨h1, hL, h2, h3⟩
  · obtain ⟨o, es, ep, ho, r⟩ := hm
    exact ⟨o, es, ep, k _ o (Ne.symm hL) ho, r⟩
  · refine (I.hok b u e).stay (fun c v hc q => k c v ?_ q) (fun _ q => q) fun _ _ q => q
    rcases hc with z | z
    · rw [z]; exact nit b u e
    · exact nit c _ z
theorem Inv.tok (I : Inv X pins σ H s) (t : Nat) : Inv X pins σ H { s with toks := t } := I.un (h' := s.heap) (t' := t) Un.refl I.hok
/-- all objects kept -/
theorem Inv.kept {t' : Nat} (I : Inv X pins σ H s) (k : ∀ b u, s.heap.get? b = some u → h'.get? b = some u) : Inv X pins σ H { s with heap := h', toks := t' } := I.un (Un.kept k) (I.hok.kept k)
/-- a new object laid and tracked -/
theorem Inv.laid {a : Addr} {o : HO} {t' : Nat} (I : Inv X pins σ H s) (k : ∀ b u, s.heap.get? b = some u → h'.get? b = some u) (hp : s.heap.objs.size ≤ a) (new : ObjOk X.prog X.w (upd H a o) h' a o) :
    Inv X pins σ (upd H a o) { s with heap := h', toks := t' } := I.un (Un.laid k hp (I.hok.fresh hp)) (I.hok.laid k hp new)
/-- an object written -/
theorem Inv.write {x e : Addr} {o : HO} {t' : Nat} (I : Inv X pins σ H s) (mu : Mut (H x)) (he : e = x ∨ H e = some (.own x)) (k : ∀ b u, b ≠ e → s.heap.get? b = some u → h'.get? b = some u) (heo : ∃ u, h'.get? e = some u)
    (new : ObjOk X.prog X.w (upd H x o) h' x o) : Inv X pins σ (upd H x o) { s with heap := h', toks := t' } := I.un (Un.write mu he k heo) (I.hok.write mu he k heo new)
/-- forgetting slots, pins -/
theorem Inv.weak {σ' : List (Option V)} (I : Inv X pins σ H s) (hl : σ'.length = σ.length) (w : ∀ (i : Nat) v, σ'[i]? = some (some v) → σ[i]? = some (some v)) : Inv X pins σ' H s :=
  ⟨I.ok, I.os, I.bare, I.base, let ⟨m, hn, hl'⟩ := I.loc; ⟨m, hn, fun i x v e1 e2 e3 => hl' i x v e1 (w i v e2) e3⟩, I.cell, I.free, I.freeC, I.pin, I.hok, hl.trans I.len⟩
theorem Inv.pins_of {pins' : List (Addr × Obj)} (I : Inv X pins σ H s) (h : ∀ p ∈ pins', s.heap.get? p.1 = some p.2 ∧ H p.1 = none ∧ p.1 ≠ X.env.locals ∧ p.1 ∉ X.fs ∧ ∀ v, p.2.data ≠ .cell v) : Inv X pins' σ H s :=
  ⟨I.ok, I.os, I.bare, I.base, I.loc, I.cell, I.free, I.freeC, fun p hp => (List.mem_append.mp hp).elim (fun z => I.pin p (List.mem_append_left _ z)) (h p), I.hok, I.len⟩

theorem nodup_ix {N : List Str} (hN : N.Nodup) {i j : Nat} {x : Str} (a : N[i]? = some x) (b : N[j]? = some x) : i = j := by
  obtain ⟨h1, e1⟩ := List.getElem?_eq_some_iff.mp a
  obtain ⟨h2, e2⟩ := List.getElem?_eq_some_iff.mp b
  exact (List.getElem_inj hN).mp (e1.trans e2.symm)

/-- a name is stored; what changed -/
theorem store_ok2 {M : Model} {A : Around} {E : Value → Shared → Prop} {i : Nat} {x : Str} {v : V} {u : Value} {Q : Unit → Shared → Prop} (I : Inv X pins σ H s) (hN : X.N.Nodup) (hi : X.N[i]? = some x) (hx : Loc X.env.scope x) (r : RelV v u)
    (h : ∀ s', Inv X pins (σ.set i (some v)) H s' → (∃ a, Heap.SameBut a s.heap s'.heap ∧ (a = X.env.locals ∨ X.env.cells.lookup x = some a)) → Q () s') (hf : X.fn x = true ∨ X.env.scope.names.lookup x = some .local := by first | exact .inl rfl | exact .inr rfl | assumption) : wpAny M A (storeName X.env x u) Q E s := by
  obtain ⟨m, hn, hl⟩ := id I.loc
  have hcls : (X.env.scope.kind == .class || (X.env.scope.kind == .module && X.env.locals != X.env.globals)) = false := by rw [I.ok.kind]; rfl
  have hiσ : i < σ.length := by rw [I.len]; exact (List.getElem?_eq_some_iff.mp hi).1
  have cne := I.cne
  have tracked : ∀ {a : Addr} {h' : Heap}, (∃ o, s.heap.get? a = some o ∧ H a = none) → Heap.SameBut a s.heap h' → HOk X.prog X.w H h' := fun {a h'} ha hs b ob e => by
    obtain ⟨_, _, hfree⟩ := ha
    refine (I.hok b ob e).stay (fun c w' hc q => (hs.2 c ?_).trans q) (fun _ q => q) fun _ _ q => q
    rintro rfl
    rcases hc with rfl | hc
    · rw [hfree] at e; cases e
    · rw [hfree] at hc; cases hc
  rcases hx with hk | hk
  · refine wpAny_storeName_local hk hn (fun h' hn' hs => ?_) hcls
    obtain ⟨oL, _, _, hoL, _⟩ := id hn
    refine h _ ⟨I.ok, I.os, I.bare, ⟨fun b o e n hb hx => ?_, fun b o e n hb hx => ?_, I.base.free, fun b o e hx => ?_, I.base.tups, I.base.frzs, I.base.tbls⟩, ⟨_, hn', fun j y v' e1 e2 e3 => ?_⟩, fun y c e => ?_, I.free, I.freeC, fun p hp => ?_, tracked ⟨oL, hoL, I.free⟩ hs, by simpa using I.len⟩ ⟨_, hs, .inl rfl⟩
    · exact (hs.2 b (Nat.ne_of_lt (Nat.lt_of_lt_of_le (Heap.lt_size e) I.ok.above))).trans (I.base.keep b o e n hb hx)
    · obtain ⟨sl, e1⟩ := I.base.slot b o e n hb hx
      exact ⟨sl, (hs.2 b (Nat.ne_of_lt (Nat.lt_of_lt_of_le (Heap.lt_size e) I.ok.above))).trans e1⟩
    · obtain ⟨o', e1⟩ := I.base.there b o e hx
      exact ⟨o', (hs.2 b (Nat.ne_of_lt (Nat.lt_of_lt_of_le (Heap.lt_size e) I.ok.above))).trans e1⟩
    · by_cases hj : j = i
      · subst hj
        rw [hi] at e1; cases e1
        rw [List.getElem?_set_self hiσ] at e2
        cases e2
        exact ⟨u, r, .inl ⟨hk, by simp⟩⟩
      · rw [List.getElem?_set_ne (Ne.symm hj)] at e2
        obtain ⟨u', r', q⟩ := hl j y v' e1 e2 e3
        refine ⟨u', r', ?_⟩
        rcases q with ⟨k, e⟩ | ⟨k, c, e, z⟩
        · refine .inl ⟨k, ?_⟩
          have : y ≠ x := fun e => hj (nodup_ix hN e1 (e ▸ hi))
          simp [this, e]
        · exact .inr ⟨k, c, e, z.sameBut hs (cne y c e)⟩
    · obtain ⟨w', z⟩ := I.cell y c e
      exact ⟨w', z.sameBut hs (cne y c e)⟩
    · obtain ⟨e, n, ne, nf, d⟩ := I.pin p hp
      exact ⟨(hs.2 p.1 ne).trans e, n, ne, nf, d⟩
  · have hfn : X.fn x = true := by
      rcases hf with z | z
      · exact z
      · rw [z] at hk; cases hk
    obtain ⟨c, hc⟩ := I.ok.has x (.inl hk)
    obtain ⟨w', z⟩ := I.cell x c hc
    refine wpAny_storeName_cell I.ok.kind hk hc z (fun h' hc' hs => ?_)
    obtain ⟨oc, hoc, hocd⟩ := id z
    refine h { s with heap := h' } ⟨I.ok, I.os, I.bare, ⟨fun b o e n hb hx => ?_, fun b o e n hb hx => ?_, I.base.free, fun b o e hx => ?_, I.base.tups, I.base.frzs, I.base.tbls⟩, ⟨m, hn.sameBut hs (Ne.symm (cne x c hc)), fun j y v' e1 e2 e3 => ?_⟩, fun y c' e => ?_, I.free, I.freeC, fun p hp => ?_, tracked ⟨oc, hoc, I.freeC x c hc⟩ hs, by simpa using I.len⟩ ⟨c, hs, .inr hc⟩
    · exact (hs.2 b (Nat.ne_of_lt (Nat.lt_of_lt_of_le (Heap.lt_size e) (I.ok.cab x c hfn hc)))).trans (I.base.keep b o e n hb hx)
    · obtain ⟨sl, e1⟩ := I.base.slot b o e n hb hx
      exact ⟨sl, (hs.2 b (Nat.ne_of_lt (Nat.lt_of_lt_of_le (Heap.lt_size e) (I.ok.cab x c hfn hc)))).trans e1⟩
    · obtain ⟨o', e1⟩ := I.base.there b o e hx
      exact ⟨o', (hs.2 b (Nat.ne_of_lt (Nat.lt_of_lt_of_le (Heap.lt_size e) (I.ok.cab x c hfn hc)))).trans e1⟩
    · by_cases hj : j = i
      · subst hj
        rw [hi] at e1; cases e1
        rw [List.getElem?_set_self hiσ] at e2
        cases e2
        exact ⟨u, r, .inr ⟨.inl hk, c, hc, hc'⟩⟩
      · rw [List.getElem?_set_ne (Ne.symm hj)] at e2
        obtain ⟨u', r', q⟩ := hl j y v' e1 e2 e3
        refine ⟨u', r', ?_⟩
        rcases q with q | ⟨k, c', e, z'⟩
        · exact .inl q
        · refine .inr ⟨k, c', e, z'.sameBut hs ?_⟩
          rintro rfl
          exact hj (nodup_ix hN e1 (I.ok.inj _ _ _ e hc ▸ hi))
    · by_cases hcc : c' = c
      · subst hcc; exact ⟨_, hc'⟩
      · obtain ⟨w2, z2⟩ := I.cell y c' e
        exact ⟨w2, z2.sameBut hs hcc⟩
    · obtain ⟨e, n, ne, nf, d⟩ := I.pin p hp
      refine ⟨(hs.2 p.1 ?_).trans e, n, ne, nf, d⟩
      intro q
      rw [q, hoc] at e
      have q' : oc = p.2 := Option.some.inj e
      exact d w' (by rw [← q']; exact hocd)
theorem store_ok {M : Model} {A : Around} {E : Value → Shared → Prop} {i : Nat} {x : Str} {v : V} {u : Value} {Q : Unit → Shared → Prop} (I : Inv X pins σ H s) (hN : X.N.Nodup) (hi : X.N[i]? = some x) (hx : Loc X.env.scope x) (r : RelV v u)
    (h : ∀ s', Inv X pins (σ.set i (some v)) H s' → Q () s') (hf : X.fn x = true ∨ X.env.scope.names.lookup x = some .local := by first | exact .inl rfl | exact .inr rfl | assumption) : wpAny M A (storeName X.env x u) Q E s :=
  store_ok2 I hN hi hx r (fun s' I' _ => h s' I') hf
/-- behind a call or a block, the state as it is -/
theorem Inv.call' {s' : Shared} {ch : List Addr} (I : Inv X pins σ H s) (ho : s'.os = s.os) (u : Un (frs X.stack) ch H H' s.heap s'.heap) (hok : HOk X.prog X.w H' s'.heap) (hg : AllBare s'.gens)
    (hch : ∀ b ∈ ch, (b ∈ X.ex ∨ X.s₀.heap.objs.size ≤ b) ∧ b ≠ X.env.locals ∧ (∀ x c, X.env.cells.lookup x = some c → c ≠ b) ∧ ∀ p ∈ X.pn ++ pins, p.1 ≠ b) : Inv X pins σ H' s' := by
  obtain ⟨h', g', d', t', o'⟩ := s'
  have e : o' = s.os := ho
  subst e
  exact I.call (g' := g') (t' := t') (d' := d') u hok hg hch
end

/-! ### the judgements -/
/-- an exception: its class, its own dict's address (where it has one), the abstract heap behind it -/
abbrev XK := Value → Option Addr → Hp → Prop
abbrev St := List (Option V)
abbrev VK := V → Hp → Prop
/-- an expression's reading; a test's; an argument list's -/
abbrev TE := St → Hp → VK → Prop
abbrev TT := St → Hp → (Bool → Hp → Prop) → Prop
abbrev TA := St → Hp → (List V → Hp → Prop) → Prop
/-- what is wanted behind a statement -/
structure Ends where
  nx : St → Hp → Prop
  rt : VK
  bk : St → Hp → Prop := fun _ _ => False
  ct : St → Hp → Prop := fun _ _ => False
abbrev TS := Ends → St → Hp → Prop

def EP (X : Cx) (pins : List (Addr × Obj)) (σ : St) (Q : VK) (u : Value) (s' : Shared) : Prop := ∃ v H', Inv X pins σ H' s' ∧ RelV v u ∧ Q v H'
def TP (X : Cx) (pins : List (Addr × Obj)) (σ : St) (Q : Bool → Hp → Prop) (b : Bool) (s' : Shared) : Prop := ∃ H', Inv X pins σ H' s' ∧ Q b H'
def AP (X : Cx) (pins : List (Addr × Obj)) (σ : St) (Q : List V → Hp → Prop) (us : List Value) (s' : Shared) : Prop := ∃ vs H', Inv X pins σ H' s' ∧ Vals vs us ∧ Q vs H'
def SP (X : Cx) (pins : List (Addr × Obj)) (D : Ends) (f : Flow) (s' : Shared) : Prop :=
  match f with
  | .next => ∃ σ' H', Inv X pins σ' H' s' ∧ D.nx σ' H'
  | .brk => ∃ σ' H', Inv X pins σ' H' s' ∧ D.bk σ' H'
  | .cont => ∃ σ' H', Inv X pins σ' H' s' ∧ D.ct σ' H'
  | .ret u => ∃ v σ' H', Inv X pins σ' H' s' ∧ RelV v u ∧ D.rt v H'

def PE (X : Cx) (e : Expr) (t : TE) : Prop :=
  ∀ (pins : List (Addr × Obj)) (s : Shared) (σ : St) (H : Hp) (Q : VK), Inv X pins σ H s → t σ H Q → wpAny (model X.prog X.w) X.A (eval e X.env) (EP X pins σ Q) X.xe s
def PT (X : Cx) (e : Expr) (t : TT) : Prop :=
  ∀ (pins : List (Addr × Obj)) (s : Shared) (σ : St) (H : Hp) (Q : Bool → Hp → Prop), Inv X pins σ H s → t σ H Q → wpAny (model X.prog X.w) X.A (isTrue e X.env (eval e X.env)) (TP X pins σ Q) X.xe s
/-- a test whatever its 'whole' is (and, or) -/
def PW (X : Cx) (e : Expr) (t : TT) : Prop :=
  ∀ (whole : Sem Value) (pins : List (Addr × Obj)) (s : Shared) (σ : St) (H : Hp) (Q : Bool → Hp → Prop), Inv X pins σ H s → t σ H Q → wpAny (model X.prog X.w) X.A (isTrue e X.env whole) (TP X pins σ Q) X.xe s
theorem PW.pt {X : Cx} {e : Expr} {t : TT} (h : PW X e t) : PT X e t := h _
/-- an argument list (no star), from the left -/
def PA (X : Cx) (es : List Expr) (t : TA) : Prop :=
  ∀ (pos : Pos) (pins : List (Addr × Obj)) (s : Shared) (σ : St) (H : Hp) (Q : List V → Hp → Prop), Inv X pins σ H s → t σ H Q → wpAny (model X.prog X.w) X.A (spliced (backTo pos (starEach es X.env))) (AP X pins σ Q) X.xe s
def PS (X : Cx) (st : Stmt) (t : TS) : Prop :=
  ∀ (pins : List (Addr × Obj)) (s : Shared) (σ : St) (H : Hp) (D : Ends), Inv X pins σ H s → t D σ H → wpAny (model X.prog X.w) X.A (exec st X.env) (SP X pins D) X.xe s
def PSs (X : Cx) (st : List Stmt) (t : TS) : Prop :=
  ∀ (pins : List (Addr × Obj)) (s : Shared) (σ : St) (H : Hp) (D : Ends), Inv X pins σ H s → t D σ H → wpAny (model X.prog X.w) X.A (execs st X.env) (SP X pins D) X.xe s
/-- weaken the end -/
theorem thn {α : Type} {t : Sem α} {Q Q' : α → Shared → Prop} {M : Model} {A : Around} {E : Value → Shared → Prop} {s : Shared} (h : wpAny M A t Q E s) (hQ : ∀ a s, Q a s → Q' a s) : wpAny M A t Q' E s := wpAny_mono h hQ fun _ _ x => x
end L2

namespace L2
open PySem PySem.Spec PyProof.Rows
section
variable {X : Cx}


/-! ### names and constants -/
def tVar (i : Nat) : TE := fun σ H Q => ∃ v, σ[i]? = some (some v) ∧ Q v H
def tC (v : V) : TE := fun _ H Q => Q v H
theorem pe_var {i : Nat} {x : Str} {pos : Pos} (hN : X.N[i]? = some x) (hv : Vis X.env.scope x) (hd : (x == ("__debug__" : Str)) = false := by decide) (hcd : (x == ("__classdict__" : Str)) = false := by decide) : PE X (.Name x pos) (tVar i) := by
  intro pins s σ H Q I h
  obtain ⟨v, e, h⟩ := h
  obtain ⟨m, hn, hl⟩ := I.loc
  obtain ⟨u, r, l⟩ := hl i x v hN e hv
  have fin : EP X pins σ Q u s := ⟨v, H, I, r, h⟩
  rcases l with ⟨hk, hm⟩ | ⟨hk, c, hc, hcell⟩
  · exact wpAny_Name (wpAny_loadName_local I.ok.kind hk hn hm fin) hd
  · rcases hk with hk | hk
    · exact wpAny_Name (wpAny_loadName_cell I.ok.kind hk hc hcell fin) hd
    · exact wpAny_Name (wpAny_loadName_free I.ok.kind hk hc hcell fin hcd) hd
theorem pe_int {i j pos} : PE X (.Constant (.int i) j pos) (tC (.int i)) := fun _ _ _ H _ I h => wpAny_Constant_int ⟨.int i, H, I.tok _, ⟨_, rfl⟩, h⟩
theorem pe_bl {b j pos} : PE X (.Constant (.bool b) j pos) (tC (.bl b)) := fun _ _ _ H _ I h => Constant_bool ⟨.bl b, H, I, rfl, h⟩
theorem pe_non {j pos} : PE X (.Constant .none j pos) (tC .non) := fun _ _ _ H _ I h => Constant_none ⟨.non, H, I, rfl, h⟩
theorem pe_str {x j pos} : PE X (.Constant (.str x) j pos) (tC (.str x)) := fun _ _ _ H _ I h => Calls.Constant_str ⟨.str x, H, I.tok _, ⟨_, rfl⟩, h⟩

/-- a global name of the def -/
def Gl (X : Cx) (x : Str) : Prop := X.env.kindOf x = some .globalImplicit
theorem ld_glob {E : Value → Shared → Prop} {pins : List (Addr × Obj)} {s : Shared} {σ : St} {H : Hp} {x : Str} {u : Value} {pos : Pos} {Q : Value → Shared → Prop} (I : Inv X pins σ H s) (hg : Gl X x) (hm : X.mg x = some u) (h : Q u s)
    (hd : (x == ("__debug__" : Str)) = false := by decide) : wpAny (model X.prog X.w) X.A (eval (.Name x pos) X.env) Q E s :=
  Calls.Name_function_global I.ok.kind hg (Calls.loadGlobal_global (by rw [I.ok.glob]; exact I.mod.glob.keeps I.bk) hm h) hd
theorem ld_blt {E : Value → Shared → Prop} {pins : List (Addr × Obj)} {s : Shared} {σ : St} {H : Hp} {x : Str} {u : Value} {pos : Pos} {Q : Value → Shared → Prop} (I : Inv X pins σ H s) (hg : Gl X x) (hm : X.mg x = none) (hv : bootBuiltins x = some u) (h : Q u s)
    (hn : x ≠ "__name__" := by decide) (hd : (x == ("__debug__" : Str)) = false := by decide) : wpAny (model X.prog X.w) X.A (eval (.Name x pos) X.env) Q E s := by
  obtain ⟨mb, h1, h2⟩ := I.mod.blt
  exact Calls.Name_function_global I.ok.kind hg (Calls.loadGlobal_builtin (by rw [I.ok.glob]; exact I.mod.glob.keeps I.bk) hm (by rw [I.ok.blt]; exact h1.keeps I.bk) ((h2 x hn).trans hv) h) hd
/-- a module's constant, a class, a function, as a value -/
theorem pe_glob {x : Str} {v : V} {u : Value} {pos : Pos} (hg : Gl X x) (hm : X.mg x = some u) (r : RelV v u) (hd : (x == ("__debug__" : Str)) = false := by decide) : PE X (.Name x pos) (tC v) :=
  fun _ _ _ H _ I h => ld_glob I hg hm ⟨v, H, I, r, h⟩ hd
theorem pe_bltn {x : Str} {v : V} {u : Value} {pos : Pos} (hg : Gl X x) (hm : X.mg x = none) (hv : bootBuiltins x = some u) (r : RelV v u) (hn : x ≠ "__name__" := by decide) (hd : (x == ("__debug__" : Str)) = false := by decide) : PE X (.Name x pos) (tC v) :=
  fun _ _ _ H _ I h => ld_blt I hg hm hv ⟨v, H, I, r, h⟩ hn hd

/-! ### arithmetic -/
variable {a b : Expr} {ta tb : TE} {pos : Pos}

/-! ### comparisons -/
/-- a comparison as a value, as a test -/
def tB (t : TE) : TT := fun σ H Q => t σ H fun x H1 => ∃ c, x = .bl c ∧ Q c H1
/-- an expression whose value is a bool, as a test -/
theorem pt_val {e : Expr} {t : TE} (h : PE X e t) (he : ∀ whole, isTrue e X.env whole = (do let v ← whole; standAt e.pos; holding [v] (truthy v)) := by intro _; rfl) : PT X e (tB t) := by
  intro pins s σ H Q I hw
  refine isTrue_plain (thn (h pins s σ H _ I hw) fun v s1 ⟨x, H1, I1, r1, q1⟩ => ?_) (he _)
  obtain ⟨d, rfl, q⟩ := q1
  cases r1
  exact wpAny_truthy_bool ⟨H1, I1, q⟩

/-! ### and, or, not -/
variable {tA tB' : TT} {rest : List Expr}
def tAnd (t u : TT) : TT := fun σ H Q => t σ H fun c H1 => if c = true then u σ H1 Q else Q false H1
def tOr (t u : TT) : TT := fun σ H Q => t σ H fun c H1 => if c = true then Q true H1 else u σ H1 Q
def tNot (t : TT) : TT := fun σ H Q => t σ H fun c H1 => Q (!c) H1
theorem pw_and1 (ha : PT X a tA) : PW X (.BoolOp .And [a] pos) tA := by
  intro wh pins s σ H Q I h
  refine isTrue_and (thn (ha pins s σ H Q I h) fun c s1 e => ?_)
  cases c with
  | true => exact isTrue_and_nil e
  | false => exact e
theorem pw_or1 (ha : PT X a tA) : PW X (.BoolOp .Or [a] pos) tA := by
  intro wh pins s σ H Q I h
  refine isTrue_or (thn (ha pins s σ H Q I h) fun c s1 e => ?_)
  cases c with
  | false => exact isTrue_or_nil e
  | true => exact e
theorem pw_and (ha : PT X a tA) (hb : PW X (.BoolOp .And (b :: rest) pos) tB') : PW X (.BoolOp .And (a :: b :: rest) pos) (tAnd tA tB') := by
  intro wh pins s σ H Q I h
  refine isTrue_and (thn (ha pins s σ H _ I h) fun c s1 ⟨H1, I1, q1⟩ => ?_)
  cases c with
  | true => exact hb wh pins s1 σ H1 Q I1 q1
  | false => exact ⟨H1, I1, q1⟩
theorem pw_or (ha : PT X a tA) (hb : PW X (.BoolOp .Or (b :: rest) pos) tB') : PW X (.BoolOp .Or (a :: b :: rest) pos) (tOr tA tB') := by
  intro wh pins s σ H Q I h
  refine isTrue_or (thn (ha pins s σ H _ I h) fun c s1 ⟨H1, I1, q1⟩ => ?_)
  cases c with
  | true => exact ⟨H1, I1, q1⟩
  | false => exact hb wh pins s1 σ H1 Q I1 q1
theorem pt_not (ha : PT X a tA) : PT X (.UnaryOp .Not a pos) (tNot tA) := by
  intro pins s σ H Q I h
  exact isTrue_not (ha pins s σ H (fun c H1 => Q (!c) H1) I h)
/-- .. as values (bools) -/
def tAndV (ta tb : TE) : TE := fun σ H Q => ta σ H fun x H1 => ∃ c, x = .bl c ∧ if c = true then tb σ H1 Q else Q (.bl false) H1
def tNotV (ta : TE) : TE := fun σ H Q => ta σ H fun x H1 => ∃ c, x = .bl c ∧ Q (.bl (!c)) H1
theorem pe_one {op} {t : TE} (h : PE X a t) : PE X (.BoolOp op [a] pos) t := fun pins s σ H Q I hw => BoolOp_one (h pins s σ H Q I hw)
theorem pe_and (ha : PE X a ta) (hb : PE X (.BoolOp .And (b :: rest) pos) tb) : PE X (.BoolOp .And (a :: b :: rest) pos) (tAndV ta tb) := by
  intro pins s σ H Q I h
  refine BoolOp_and (thn (ha pins s σ H _ I h) fun v s1 ⟨x, H1, I1, r1, q1⟩ => ?_)
  obtain ⟨c, rfl, q1⟩ := q1
  cases r1
  refine wpAny_truthy_bool ?_
  cases c with
  | true => exact hb pins s1 σ H1 Q I1 q1
  | false => exact ⟨.bl false, H1, I1, rfl, q1⟩
theorem pe_not (ha : PE X a ta) : PE X (.UnaryOp .Not a pos) (tNotV ta) := by
  intro pins s σ H Q I h
  refine UnaryOp_ (thn (ha pins s σ H _ I h) fun v s1 ⟨x, H1, I1, r1, q1⟩ => ?_)
  obtain ⟨c, rfl, q1⟩ := q1
  cases r1
  exact not_of (wpAny_truthy_bool ⟨.bl (!c), H1, I1, rfl, q1⟩)
/-- a if t else b -/
def tIf (t : TT) (ta tb : TE) : TE := fun σ H Q => t σ H fun c H1 => if c = true then ta σ H1 Q else tb σ H1 Q
theorem pe_ifExp {c : Expr} (hc : PT X c tA) (ha : PE X a ta) (hb : PE X b tb) : PE X (.IfExp c a b pos) (tIf tA ta tb) := by
  intro pins s σ H Q I h
  refine wpAny_IfExp (thn (hc pins s σ H _ I h) fun d s1 ⟨H1, I1, q1⟩ => ?_)
  cases d with
  | true => exact ha pins s1 σ H1 Q I1 q1
  | false => exact hb pins s1 σ H1 Q I1 q1
end
end L2

namespace L2
open PySem PySem.Spec PyProof.Rows

/-! ### a list, a tuple that is read: tracked, frozen, or an object of the module -/
def SqL (K : PySem.W.Frag) (H : Hp) (a : Addr) (xs : List V) : Prop :=
  Rd H a (.lst xs) ∨
    ∃ (o : Obj) (its : Array Value) (n : Nat), K.lookup a = some o ∧ o.cls = .type "list" ∧ o.dict = none ∧ o.data = .seq its n ∧ its.size ≤ sizeLine ∧ Vals xs its.toList
def SqT (K : PySem.W.Frag) (H : Hp) (a : Addr) (xs : List V) : Prop :=
  Rd H a (.tup xs) ∨
    ∃ (o : Obj) (its : Array Value) (n : Nat), K.lookup a = some o ∧ o.cls = .type "tuple" ∧ o.data = .seq its n ∧ its.size ≤ sizeLine ∧ Vals xs its.toList
def absV : Value → Option V
  | .none => some .non
  | .bool b => some (.bl b)
  | .int i _ => some (.int i)
  | .str x _ => some (.str x)
  | .bytes b _ => some (.byt b)
  | .float b _ => some (.flt b)
  | .ref a => some (.ref a)
  | .type n => some (.ty n)
  | _ => none
theorem RelV.abs {x : V} {u : Value} (r : RelV x u) : absV u = some x := by
  cases x with
  | non => cases r; rfl
  | bl _ => cases r; rfl
  | int _ => obtain ⟨t, rfl⟩ := r; rfl
  | str _ => obtain ⟨t, rfl⟩ := r; rfl
  | byt _ => obtain ⟨t, rfl⟩ := r; rfl
  | flt _ => obtain ⟨t, rfl⟩ := r; rfl
  | ref _ => cases r; rfl
  | ty _ => cases r; rfl
theorem RelV.inj {x y : V} {u : Value} (r : RelV x u) (q : RelV y u) : x = y := Option.some.inj (r.abs.symm.trans q.abs)
theorem Vals.inj : ∀ {xs ys : List V} {us : List Value}, Vals xs us → Vals ys us → xs = ys
  | _, _, _, .nil, .nil => rfl
  | _, _, _, .cons r t, .cons r' t' => by rw [r.inj r', Vals.inj t t']
section
variable {X : Cx} {pins : List (Addr × Obj)} {σ : St} {H : Hp} {s : Shared} {a : Addr} {xs ys : List V}
theorem SqL.of {K : PySem.W.Frag} (h : H a = some (.lst xs)) : SqL K H a xs := .inl (.inl h)
theorem SqT.of {K : PySem.W.Frag} (h : H a = some (.tup xs)) : SqT K H a xs := .inl (.inl h)
theorem Inv.list (I : Inv X pins σ H s) (h : SqL X.K H a xs) : ∃ its : List Value, Vals xs its ∧ PlainL s.heap a its.toArray ∧ xs.length ≤ sizeLine := by
  rcases h with h | ⟨o, its, n, hk, hc, hd, hs, hz, r⟩
  · obtain ⟨z, its, n, r, e⟩ := h.ok I.hok
    exact ⟨its, r, ⟨_, n, e, rfl, rfl, rfl⟩, z⟩
  · refine ⟨its.toList, r, ⟨o, n, I.kIn a o hk, hc, hd, by simpa using hs⟩, ?_⟩
    have e := r.length
    simp only [Array.length_toList] at e
    omega
theorem Inv.tuple (I : Inv X pins σ H s) (h : SqT X.K H a xs) : ∃ its : List Value, Vals xs its ∧ IsTup s.heap a its.toArray ∧ xs.length ≤ sizeLine := by
  rcases h with h | ⟨o, its, n, hk, hc, hs, hz, r⟩
  · obtain ⟨z, its, r, p⟩ := h.ok I.hok
    exact ⟨its, r, p, z⟩
  · refine ⟨its.toList, r, ⟨o, I.kIn a o hk, hc, n, by simpa using hs⟩, ?_⟩
    have e := r.length
    simp only [Array.length_toList] at e
    omega
theorem Inv.tuple_inj (I : Inv X pins σ H s) (h : SqT X.K H a xs) (h' : SqT X.K H a ys) : xs = ys := by
  obtain ⟨its, r, ⟨o, e, _, n, d⟩, _⟩ := I.tuple h
  obtain ⟨its', r', ⟨o', e', _, n', d'⟩, _⟩ := I.tuple h'
  rw [e] at e'; cases e'
  rw [d] at d'
  injection d' with d1 _
  have : its = its' := by simpa using congrArg Array.toList d1
  subst this
  exact r.inj r'
end

/-! ### another wish about exceptions -/
abbrev Cx.wish (X : Cx) (E : Value → Shared → Prop) : Cx := { X with xe := E }
/-- no exception leaves -/
abbrev Cx.nox (X : Cx) : Cx := X.wish fun _ _ => False
theorem Cx.Ok.wish {X : Cx} (ok : X.Ok) (E : Value → Shared → Prop) : (X.wish E).Ok :=
  ⟨ok.mod, ok.kind, ok.glob, ok.blt, ok.above, ok.inj, ok.has, ok.cab, ok.hd, ok.frames, ok.stk, ok.exf, ok.bs, ok.bsz, ok.noex, ok.exfs, ok.funs, ok.frf⟩
theorem Cx.Ok.unwish {X : Cx} {E : Value → Shared → Prop} (ok : (X.wish E).Ok) : X.Ok :=
  ⟨ok.mod, ok.kind, ok.glob, ok.blt, ok.above, ok.inj, ok.has, ok.cab, ok.hd, ok.frames, ok.stk, ok.exf, ok.bs, ok.bsz, ok.noex, ok.exfs, ok.funs, ok.frf⟩
section
variable {X : Cx} {pins : List (Addr × Obj)} {σ : St} {H : Hp} {s : Shared} {E : Value → Shared → Prop}
theorem Inv.wish (I : Inv X pins σ H s) (E : Value → Shared → Prop) : Inv (X.wish E) pins σ H s := ⟨I.ok.wish E, I.os, I.bare, I.base, I.loc, I.cell, I.free, I.freeC, I.pin, I.hok, I.len⟩
theorem Inv.unwish (I : Inv (X.wish E) pins σ H s) : Inv X pins σ H s := ⟨I.ok.unwish, I.os, I.bare, I.base, I.loc, I.cell, I.free, I.freeC, I.pin, I.hok, I.len⟩
theorem SP.unwish {D : Ends} {f : Flow} {s' : Shared} (h : SP (X.wish E) pins D f s') : SP X pins D f s' := by
  cases f with
  | next => obtain ⟨σ', H', I, q⟩ := h; exact ⟨σ', H', I.unwish, q⟩
  | brk => obtain ⟨σ', H', I, q⟩ := h; exact ⟨σ', H', I.unwish, q⟩
  | cont => obtain ⟨σ', H', I, q⟩ := h; exact ⟨σ', H', I.unwish, q⟩
  | ret u => obtain ⟨v, σ', H', I, r, q⟩ := h; exact ⟨v, σ', H', I.unwish, r, q⟩
theorem PSs.nox {st : List Stmt} {t : TS} (h : PSs X.nox st t) : PSs X st t := fun pins s σ H D I hw =>
  wpAny_mono (h pins s σ H D (I.wish _) hw) (fun _ _ q => q.unwish) fun _ _ z => False.elim z
end

/-! ### blocks and small statements -/
section
variable {X : Cx} {st : Stmt} {rest : List Stmt} {t u : TS} {e : Expr} {te : TE} {pos : Pos}
def tNext : TS := fun D σ H => D.nx σ H
def tSeq (t u : TS) : TS := fun D σ H => t { D with nx := u D } σ H
theorem pss_nil : PSs X [] tNext := fun _ _ σ H _ I h => wpAny_execs_nil ⟨σ, H, I, h⟩
theorem pss_cons (h1 : PS X st t) (h2 : PSs X rest u) : PSs X (st :: rest) (tSeq t u) := by
  intro pins s σ H D I h
  refine wpAny_execs_cons (thn (h1 pins s σ H { D with nx := u D } I h) fun f s1 q => ?_)
  cases f with
  | next =>
    obtain ⟨σ', H', I', q⟩ := q
    exact h2 pins s1 σ' H' D I' q
  | ret v => exact q
  | brk => exact q
  | cont => exact q
theorem pss_one (h1 : PS X st t) : PSs X [st] t := by
  intro pins s σ H D I h
  refine wpAny_execs_cons (thn (h1 pins s σ H D I h) fun f s1 q => ?_)
  cases f with
  | next => exact wpAny_execs_nil q
  | ret v => exact q
  | brk => exact q
  | cont => exact q
/-- in a def's body nothing is shown -/
theorem Inv.quiet {pins : List (Addr × Obj)} {σ : St} {H : Hp} {s : Shared} (I : Inv X pins σ H s) : interactive X.env = false := by simp [interactive, I.ok.kind]
/-- an expression whose value is dropped -/
def tDrop (te : TE) : TS := fun D σ H => te σ H fun _ H1 => D.nx σ H1
theorem ps_expr (he : PE X e te) (hs : swapsWith e none pos.line X.env = pure false := by rfl) : PS X (.Expr e pos) (tDrop te) := by
  intro pins s σ H D I h
  exact wpAny_Expr_any (thn (he pins s σ H _ I h) fun v s1 ⟨x, H1, I1, r1, q1⟩ => ⟨σ, H1, I1, q1⟩) I.quiet hs
def tRet (te : TE) : TS := fun D σ H => te σ H D.rt
theorem ps_ret (he : PE X e te) : PS X (.Return (some e) pos) (tRet te) := by
  intro pins s σ H D I h
  exact wpAny_Return_some (thn (he pins s σ H _ I h) fun v s1 ⟨x, H1, I1, r1, q1⟩ => ⟨x, σ, H1, I1, r1, q1⟩)
def tIfS (c : TT) (t u : TS) : TS := fun D σ H => c σ H fun b H1 => if b = true then t D σ H1 else u D σ H1
theorem ps_if {c : Expr} {a b : List Stmt} {tc : TT} (hc : PT X c tc) (ha : PSs X a t) (hb : PSs X b u) : PS X (.If c a b pos) (tIfS tc t u) := by
  intro pins s σ H D I h
  refine wpAny_If (thn (hc pins s σ H _ I h) fun d s1 ⟨H1, I1, q1⟩ => ?_)
  cases d with
  | true => exact ha pins s1 σ H1 D I1 q1
  | false => exact hb pins s1 σ H1 D I1 q1
/-- code that the proof never comes to -/
def tNever : TS := fun _ _ _ => False
theorem ps_never : PS X st tNever := fun _ _ _ _ _ _ h => h.elim
end

/-! ### targets -/
abbrev TG := V → St → Hp → (St → Hp → Prop) → Prop
abbrev TGs := List V → St → Hp → (St → Hp → Prop) → Prop
def PG (X : Cx) (target : Expr) (t : TG) : Prop :=
  ∀ (pins : List (Addr × Obj)) (s : Shared) (σ : St) (H : Hp) (v : V) (u : Value) (Q : St → Hp → Prop), Inv X pins σ H s → RelV v u → t v σ H Q →
    wpAny (model X.prog X.w) X.A (assign target X.env u) (fun _ s' => ∃ σ' H', Inv X pins σ' H' s' ∧ Q σ' H') X.xe s
/-- several targets, one after another -/
def PGs (X : Cx) (ts : List Expr) (t : TGs) : Prop :=
  ∀ (pins : List (Addr × Obj)) (s : Shared) (σ : St) (H : Hp) (vs : List V) (us : List Value) (Q : St → Hp → Prop), Inv X pins σ H s → Vals vs us → t vs σ H Q →
    wpAny (model X.prog X.w) X.A (assignInOrder ((assignEach ts X.env).map (·.2)) us) (fun _ s' => ∃ σ' H', Inv X pins σ' H' s' ∧ Q σ' H') X.xe s
/-- o[i] = v, by values -/
abbrev TSet := V → V → V → Hp → (Hp → Prop) → Prop
def PSet (X : Cx) (t : TSet) : Prop :=
  ∀ (pins : List (Addr × Obj)) (s : Shared) (σ : St) (H : Hp) (o i v : V) (ov iv u : Value) (Q : Hp → Prop), Inv X pins σ H s → RelV o ov → RelV i iv → RelV v u → t o i v H Q →
    wpAny (model X.prog X.w) X.A (setItem ov iv u) (fun _ s' => ∃ H', Inv X pins σ H' s' ∧ Q H') X.xe s
/-- a op= b, by values -/
abbrev TIp := V → V → Hp → VK → Prop
def PIp (X : Cx) (op : Operator) (t : TIp) : Prop :=
  ∀ (pins : List (Addr × Obj)) (s : Shared) (σ : St) (H : Hp) (x y : V) (v u : Value) (Q : VK), Inv X pins σ H s → RelV x v → RelV y u → t x y H Q →
    wpAny (model X.prog X.w) X.A (inplaceOp op v u) (EP X pins σ Q) X.xe s
section
variable {X : Cx} {pos : Pos}
def gName (i : Nat) : TG := fun v σ H Q => Q (σ.set i (some v)) H
theorem pg_name {i : Nat} {x : Str} (hN : X.N.Nodup) (hi : X.N[i]? = some x) (hx : Loc X.env.scope x) (hf : X.fn x = true ∨ X.env.scope.names.lookup x = some .local := by first | exact .inl rfl | exact .inr rfl | assumption) : PG X (.Name x pos) (gName i) := by
  intro pins s σ H v u Q I r h
  exact wpAny_assign_Name (store_ok I hN hi hx r (fun s' I' => ⟨_, H, I', h⟩) hf)
def gNil : TGs := fun vs σ H Q => vs = [] ∧ Q σ H
def gCons (t : TG) (u : TGs) : TGs := fun vs σ H Q => ∃ v r, vs = v :: r ∧ t v σ H fun σ' H' => u r σ' H' Q
theorem pgs_nil : PGs X [] gNil := by
  intro pins s σ H vs us Q I r h
  obtain ⟨e, h⟩ := h
  subst e
  cases r
  exact assignInOrder_nil ⟨σ, H, I, h⟩
theorem pgs_cons {e : Expr} {es : List Expr} {t : TG} {u : TGs} (h1 : PG X e t) (h2 : PGs X es u)
    (hs : (assignEach (e :: es) X.env).map (·.2) = assign e X.env :: (assignEach es X.env).map (·.2) := by rfl) : PGs X (e :: es) (gCons t u) := by
  intro pins s σ H vs us Q I r h
  obtain ⟨v, vr, e1, h⟩ := h
  subst e1
  cases r with
  | cons r rr =>
    rw [hs]
    refine assignInOrder_cons (thn (h1 pins s σ H _ _ _ I r h) fun _ s1 ⟨σ1, H1, I1, q1⟩ => ?_)
    exact h2 pins s1 σ1 H1 _ _ Q I1 rr q1
/-- (a, b, ..) = a tuple of that length -/
def gTup (K : PySem.W.Frag) (n : Nat) (t : TGs) : TG := fun v σ H Q => ∃ a xs, v = .ref a ∧ SqT K H a xs ∧ xs.length = n ∧ t xs σ H Q
theorem pg_tup {es : List Expr} {k : Nat} {t : TGs} {n : Nat} (hc : X.calm = true) (h : PGs X es t)
    (hn : (assignEach es X.env).length = n := by rfl) (hst : (assignEach es X.env).findIdx? (·.1) = none := by rfl) : PG X (.Tuple es k pos) (gTup X.K n t) := by
  intro pins s σ H v u Q I r hw
  obtain ⟨a, xs, e1, hq, hl, hw⟩ := hw
  subst e1
  cases r
  obtain ⟨its, rv, ht, hz⟩ := I.tuple hq
  refine assign_Tuple_tuple (I.ok.hd hc) ht (by simp [hn, ← hl, rv.length]) hst fun h' hx => ?_
  have I1 : Inv X pins σ H { s with heap := h' } := I.kept (t' := s.toks) fun b o e => hx b o (Nat.ne_of_lt (Heap.lt_size e)) e
  exact h pins _ σ H xs _ Q I1 (by simpa using rv) hw
/-- o[i] = .. -/
def gSub (to ti : TE) (t : TSet) : TG := fun v σ H Q => to σ H fun o H1 => ti σ H1 fun i H2 => t o i v H2 fun H3 => Q σ H3
theorem pg_sub {o i : Expr} {to ti : TE} {t : TSet} (ho : PE X o to) (hi : PE X i ti) (hs : PSet X t)
    (ha : ∀ v, assign (.Subscript o i pos) X.env v = (do
      let ov ← holding [v] (eval o X.env)
      let iv ← holding [v, ov] (eval i X.env)
      standAt pos
      holding [v, ov, iv] (setItem ov iv v)
      release [v, ov, iv] []) := by intro _; rfl) : PG X (.Subscript o i pos) (gSub to ti t) := by
  intro pins s σ H v u Q I r h
  rw [ha]
  refine wpAny_bind (wpAny_holding (thn (ho pins s σ H _ I h) fun ov s1 ⟨x, H1, I1, r1, q1⟩ => ?_))
  refine wpAny_bind (wpAny_holding (thn (hi pins s1 σ H1 _ I1 q1) fun iv s2 ⟨y, H2, I2, r2, q2⟩ => ?_))
  refine wpAny_bind (wpAny_standAt (wpAny_bind (wpAny_holding (thn (hs pins s2 σ H2 x y v ov iv u _ I2 r1 r2 r q2) fun _ s3 ⟨H3, I3, q3⟩ => ?_))))
  exact wpAny_release ⟨σ, H3, I3, q3⟩
/-- target = value -/
def tAsg (te : TE) (g : TG) : TS := fun D σ H => te σ H fun x H1 => g x σ H1 D.nx
theorem ps_asg {tg e : Expr} {te : TE} {g : TG} (he : PE X e te) (hg : PG X tg g) (hs : swapsWithSole [tg] e pos.line X.env = pure false := by rfl) (hw : swappedStores [tg] e X.env = pure none := by rfl)
    (h1 : (assignEach [tg] X.env).map (·.2) = [assign tg X.env] := by rfl) : PS X (.Assign [tg] e pos) (tAsg te g) := by
  intro pins s σ H D I h
  refine wpAny_Assign_stores (thn (he pins s σ H _ I h) fun v s1 ⟨x, H1, I1, r1, q1⟩ => ?_) hs hw
  rw [h1]
  exact thn (hg pins s1 σ H1 x v _ I1 r1 q1) fun _ s2 q => q
/-- name = value -/
theorem ps_set {i : Nat} {x : Str} {e : Expr} {te : TE} {pos' : Pos} (hN : X.N.Nodup) (hi : X.N[i]? = some x) (hx : Loc X.env.scope x) (he : PE X e te) (hs : swapsWith e (some (.Name x pos')) pos.line X.env = pure false := by rfl) (hf : X.fn x = true ∨ X.env.scope.names.lookup x = some .local := by first | exact .inl rfl | exact .inr rfl | assumption) :
    PS X (.Assign [.Name x pos'] e pos) (tAsg te (gName i)) := by
  intro pins s σ H D I h
  refine wpAny_Assign_Name (thn (he pins s σ H _ I h) fun v s1 ⟨y, H1, I1, r1, q1⟩ => ?_) hs
  exact store_ok I1 hN hi hx r1 (fun s2 I2 => ⟨_, H1, I2, q1⟩) hf
/-- o[i] op= e -/
def tAugS (to ti te : TE) (tget : V → V → Hp → VK → Prop) (tip : TIp) (tset : TSet) : TS := fun D σ H => to σ H fun o H1 => ti σ H1 fun i H2 => tget o i H2 fun x H3 => te σ H3 fun y H4 => tip x y H4 fun z H5 => tset o i z H5 fun H6 => D.nx σ H6
/-- o[i], by values -/
def PGet (X : Cx) (t : V → V → Hp → VK → Prop) : Prop :=
  ∀ (pins : List (Addr × Obj)) (s : Shared) (σ : St) (H : Hp) (o i : V) (ov iv : Value) (Q : VK), Inv X pins σ H s → RelV o ov → RelV i iv → t o i H Q →
    wpAny (model X.prog X.w) X.A (getItem ov iv) (EP X pins σ Q) X.xe s
theorem ps_augS {o i e : Expr} {to ti te : TE} {tget : V → V → Hp → VK → Prop} {tip : TIp} {tset : TSet} {op : Operator} {tpos : Pos} (ho : PE X o to) (hi : PE X i ti) (hg : PGet X tget) (he : PE X e te) (hp : PIp X op tip) (hs : PSet X tset)
    (ha : ∀ ov iv new, augStore i ov iv new = (do holding [new, ov, iv] (setItem ov iv new); release [new, ov, iv] []; pure .next) := by intros; rfl) : PS X (.AugAssign (.Subscript o i tpos) op e pos) (tAugS to ti te tget tip tset) := by
  intro pins s σ H D I h
  refine wpAny_AugAssign_SubscriptAny (thn (ho pins s σ H _ I h) fun ov s1 ⟨x1, H1, I1, r1, q1⟩ => ?_) ha
  refine thn (hi pins s1 σ H1 _ I1 q1) fun iv s2 ⟨x2, H2, I2, r2, q2⟩ => ?_
  refine thn (hg pins s2 σ H2 x1 x2 ov iv _ I2 r1 r2 q2) fun old s3 ⟨x3, H3, I3, r3, q3⟩ => ?_
  refine thn (he pins s3 σ H3 _ I3 q3) fun v s4 ⟨x4, H4, I4, r4, q4⟩ => ?_
  refine thn (hp pins s4 σ H4 x3 x4 old v _ I4 r3 r4 q4) fun new s5 ⟨x5, H5, I5, r5, q5⟩ => ?_
  exact thn (hs pins s5 σ H5 x1 x2 x5 ov iv new _ I5 r1 r2 r5 q5) fun _ s6 ⟨H6, I6, q6⟩ => ⟨σ, H6, I6, q6⟩
/-- ints -/
def ipI (f : Int → Int → Int) : TIp := fun x y H Q => ∃ i j, x = .int i ∧ y = .int j ∧ Q (.int (f i j)) H
theorem ip_add : PIp X .Add (ipI fun i j => i + j) := by
  intro pins s σ H x y v u Q I r1 r2 h
  obtain ⟨i, j, e1, e2, q⟩ := h
  subst e1; subst e2
  obtain ⟨t, rfl⟩ := r1
  obtain ⟨t', rfl⟩ := r2
  exact iadd_int ⟨.int _, H, I.tok _, ⟨_, rfl⟩, q⟩
theorem ip_sub : PIp X .Sub (ipI fun i j => i - j) := by
  intro pins s σ H x y v u Q I r1 r2 h
  obtain ⟨i, j, e1, e2, q⟩ := h
  subst e1; subst e2
  obtain ⟨t, rfl⟩ := r1
  obtain ⟨t', rfl⟩ := r2
  exact isub_int ⟨.int _, H, I.tok _, ⟨_, rfl⟩, q⟩
end

/-! ### while -/
section
variable {X : Cx} {pos : Pos}
/-- the invariant W with its measure -/
def tWhile (c : TT) (tb : TS) : TS := fun D σ H => ∃ W : Nat → St → Hp → Prop, (∃ m, W m σ H) ∧ ∀ m σ H, W m σ H →
  c σ H fun b H1 => if b = true then ∃ N : St → Hp → Prop, (∀ σ' H', N σ' H' → ∃ m', m' < m ∧ W m' σ' H') ∧ tb { D with nx := N, ct := N, bk := D.nx } σ H1 else D.nx σ H1
theorem ps_while {c : Expr} {body : List Stmt} {tc : TT} {tb : TS} (hp : PassesOwn (model X.prog X.w) X.A X.env X.xe) (hc : PT X c tc) (hb : PSs X body tb) : PS X (.While c body [] pos) (tWhile tc tb) := by
  intro pins s σ H D I h
  obtain ⟨W, ⟨m0, w0⟩, turn⟩ := h
  refine wpAny_While (codeAny_whileLoop (fun n s' => ∃ σ' H', Inv X pins σ' H' s' ∧ W n σ' H') ?_ m0 ⟨σ, H, I, w0⟩)
  rintro n s1 ⟨σ1, H1, I1, w1⟩
  refine wpAny_passesOwn hp (thn (hc pins s1 σ1 H1 _ I1 (turn n σ1 H1 w1)) fun b s2 ⟨H2, I2, q2⟩ => ?_)
  cases b with
  | true =>
    obtain ⟨N, hN, q2⟩ := q2
    rw [if_pos rfl]
    refine wpAny_passesOwn hp (thn (hb pins s2 σ1 H2 _ I2 q2) fun f s3 q3 => ?_)
    cases f with
    | next =>
      obtain ⟨σ3, H3, I3, n3⟩ := q3
      obtain ⟨m', hm, w3⟩ := hN σ3 H3 n3
      exact ⟨m', hm, σ3, H3, I3, w3⟩
    | cont =>
      obtain ⟨σ3, H3, I3, n3⟩ := q3
      obtain ⟨m', hm, w3⟩ := hN σ3 H3 n3
      exact ⟨m', hm, σ3, H3, I3, w3⟩
    | brk => exact q3
    | ret v => exact q3
  | false =>
    rw [if_neg Bool.false_ne_true]
    exact wpAny_execs_nil ⟨σ1, H2, I2, q2⟩
end

/-! ### what a loop or a comprehension walks -/
/-- at turn i: it yields x (the heap may grow), or it stops -/
structure It where
  go : Nat → Hp → Prop
  yld : Nat → Hp → V → Hp → Prop
  stop : Nat → Hp → Prop
/-- the iterator's own objects may turn: they are not the frame's, not pinned, younger than the entry (or a comprehension's own) -/
def FpOk (X : Cx) (pins : List (Addr × Obj)) (H : Hp) (b : Addr) : Prop :=
  H b = none ∧ b ≠ X.env.locals ∧ b ∉ X.fs ∧ (b ∈ X.ex ∨ X.s₀.heap.objs.size ≤ b) ∧ (∀ x c, X.env.cells.lookup x = some c → c ≠ b) ∧ ∀ p ∈ X.pn ++ pins, p.1 ≠ b
theorem Inv.fpOk {X : Cx} {pins : List (Addr × Obj)} {σ : St} {H H' : Hp} {s : Shared} {b : Addr} (I : Inv X pins σ H s) (hb : s.heap.objs.size ≤ b) (hn : H' b = none) : FpOk X pins H' b := by
  refine ⟨hn, Nat.ne_of_gt (Nat.lt_of_lt_of_le I.lt hb), I.nofs hb, .inr (Nat.le_trans I.sz hb), fun x c e z => ?_, fun p hp z => ?_⟩
  · obtain ⟨v, q⟩ := I.cell x c e
    exact absurd (Nat.lt_of_lt_of_le q.lt (by rw [z]; exact hb)) (Nat.lt_irrefl _)
  · exact absurd (Nat.lt_of_lt_of_le (Heap.lt_size (I.pin p hp).1) (by rw [z]; exact hb)) (Nat.lt_irrefl _)
structure Turn (P : Program) (w : World) (K : PySem.W.Frag) (tg : Expr) (J : It) (fp : List Addr) (it : Addr) (tn : Nat → Heap → Prop) : Prop where
  mem : it ∈ fp
  obj : ∀ i h, tn i h → ∀ b ∈ fp, ∃ o, h.get? b = some o ∧ ∀ v, o.data ≠ .cell v
  keep : ∀ i h h', tn i h → (∀ b ∈ fp, ∀ o, h.get? b = some o → h'.get? b = some o) → tn i h'
  item : ∀ (X : Cx), X.prog = P → X.w = w → X.K = K → X.calm = true → ∀ (i : Nat) (pins : List (Addr × Obj)) (s : Shared) (σ : St) (H : Hp) (E : Value → Shared → Prop), Inv X pins σ H s → (∀ b ∈ fp, FpOk X pins H b) → tn i s.heap → J.go i H →
    wpAny (model P w) X.A (pyNext (.ref it)) (fun r s1 => ∃ u, r = some u ∧
      wpAny (model P w) X.A (letOwnedTupleGo tg (.ref it) u) (fun _ s2 => ∃ x H', Inv X pins σ H' s2 ∧ RelV x u ∧ J.yld i H x H' ∧ tn (i + 1) s2.heap ∧ ∀ b ∈ fp, H' b = none) E s1) E s
  done : ∀ (X : Cx), X.prog = P → X.w = w → X.K = K → X.calm = true → ∀ (i : Nat) (pins : List (Addr × Obj)) (s : Shared) (σ : St) (H : Hp) (E : Value → Shared → Prop), Inv X pins σ H s → (∀ b ∈ fp, FpOk X pins H b) → tn i s.heap → J.stop i H →
    wpAny (model P w) X.A (pyNext (.ref it)) (fun r s1 => r = none ∧ Inv X pins σ H s1) E s
  self : ∀ (A : Around) (i : Nat) (s : Shared) (Q : Value → Shared → Prop) (E : Value → Shared → Prop), tn i s.heap → Q (.ref it) s → wpAny (model P w) A (pyIter (.ref it)) Q E s
abbrev TI := St → Hp → (It → Hp → Prop) → Prop
/-- an iterator has come -/
def PIE (X : Cx) (pins : List (Addr × Obj)) (σ : St) (tg : Expr) (R : It → Hp → Prop) (itv : Value) (s2 : Shared) : Prop :=
  ∃ (it : Addr) (fp : List Addr) (tn : Nat → Heap → Prop) (J : It) (H' : Hp), itv = .ref it ∧ Inv X pins σ H' s2 ∧ Turn X.prog X.w X.K tg J fp it tn ∧ tn 0 s2.heap ∧ (∀ b ∈ fp, FpOk X pins H' b) ∧ R J H'
def PI (X : Cx) (tg iter : Expr) (wi : TI) : Prop :=
  ∀ (pins : List (Addr × Obj)) (s : Shared) (σ : St) (H : Hp) (R : It → Hp → Prop), Inv X pins σ H s → wi σ H R →
    wpAny (model X.prog X.w) X.A (eval iter X.env) (fun v s1 => wpAny (model X.prog X.w) X.A (pyIter v) (PIE X pins σ tg R) X.xe s1) X.xe s

/-- the step ahead of the store is nothing for an iterator that keeps no tuple -/
theorem go_of {M : Model} {A : Around} {E : Value → Shared → Prop} {s : Shared} {tg : Expr} {it : Addr} {u : Value} {o : Obj} {n : String} {vs : Array Value} {Q : Unit → Shared → Prop} (ho : s.heap.get? it = some o) (hc : o.cls = .type n) (hd : o.data = .fields vs)
    (hn : ["enumerate", "zip", "dict_itemiterator", "dict_reverseitemiterator", "odict_iterator", "itertools.zip_longest", "itertools.pairwise"].contains n = false) (hQ : Q () s) : wpAny M A (letOwnedTupleGo tg (.ref it) u) Q E s := by
  unfold letOwnedTupleGo
  cases tg <;> first
    | exact wpAny_pure hQ
    | (cases u <;> first
        | exact wpAny_pure hQ
        | (refine wpAny_bind (wpAny_load ho ?_)
           rw [hc, hd]
           show wpAny M A (if (["enumerate", "zip", "dict_itemiterator", "dict_reverseitemiterator", "odict_iterator", "itertools.zip_longest", "itertools.pairwise"].contains n && vs[0]? == some (rawInt _)) = true then _ else _) Q E s
           rw [if_neg (by intro h; rw [hn, Bool.false_and] at h; cases h)]
           exact wpAny_pure hQ))

def Itt (K : PySem.W.Frag) (a : Addr) : It :=
  ⟨fun i H => ∃ xs x, SqT K H a xs ∧ xs[i]? = some x, fun i H x H' => H' = H ∧ ∀ xs, SqT K H a xs → xs[i]? = some x, fun i H => ∃ xs, SqT K H a xs ∧ xs.length ≤ i⟩
/-- lo, lo + 1, .. (n of them) -/
def Itr (lo : Int) (n : Nat) : It := ⟨fun i _ => i < n, fun i H x H' => H' = H ∧ x = .int (lo + i), fun i _ => n ≤ i⟩
theorem turn_tuple {P : Program} {w : World} {K : PySem.W.Frag} {tg : Expr} (a it : Addr) : Turn P w K tg (Itt K a) [it] it (fun i h => h.IsTupleIter it a i) where
  mem := by simp
  obj := fun i h st b hb => by
    have e : b = it := by simpa using hb
    subst e
    obtain ⟨o, e, c, d⟩ := st
    exact ⟨o, e, fun v z => by rw [d] at z; cases z⟩
  keep := fun i h h' st k => st.at fun o e => k it (by simp) o e
  item := by
    intro X hP hw hK hc i pins s σ H E I hf st hg
    subst hP hw hK
    obtain ⟨xs, x, hq, hx⟩ := hg
    obtain ⟨its, rv, p, hz⟩ := I.tuple hq
    obtain ⟨u, hu, ru⟩ := rv.get hx
    obtain ⟨f0, f1, f2, f3, f4, f5⟩ := hf it (by simp)
    refine wpAny_pyNext_tuple_item st (show s.heap.IsTuple a its.toArray from p) (x := u) (by simpa using hu) fun h' st' sb => ?_
    have I1 : Inv X pins σ H { s with heap := h' } := I.turned (t' := s.toks) (fun b o hb e => (sb.2 b hb).trans e) f0 f1 f3 f4 f5
    obtain ⟨o, e, c, d⟩ := id st'
    exact ⟨u, rfl, go_of (s := { s with heap := h' }) e c d (by decide) ⟨x, H, I1, ru, ⟨rfl, fun ys hy => by rw [I.tuple_inj hy hq]; exact hx⟩, st', fun b hb => (hf b hb).1⟩⟩
  done := by
    intro X hP hw hK hc i pins s σ H E I hf st hg
    subst hP hw hK
    obtain ⟨xs, hq, hx⟩ := hg
    obtain ⟨its, rv, p, hz⟩ := I.tuple hq
    obtain ⟨f0, f1, f2, f3, f4, f5⟩ := hf it (by simp)
    have hl := rv.length
    exact wpAny_pyNext_tuple_end (I.ok.hd hc) st (show s.heap.IsTuple a its.toArray from p) (by simp; omega) fun h' eb => ⟨rfl, I.turned (t' := s.toks) (fun b o hb e => eb b o hb e) f0 f1 f3 f4 f5⟩
  self := fun _ _ _ _ _ st h => wpAny_pyIter_tupleiter st h
theorem turn_range {P : Program} {w : World} {K : PySem.W.Frag} {tg : Expr} (it : Addr) (lo : Int) (n : Nat) : Turn P w K tg (Itr lo n) [it] it (fun i h => IsRangeIter h it (lo + (i : Nat) * 1) ((n : Int) - (i : Nat)) 1) where
  mem := by simp
  obj := fun i h st b hb => by
    have e : b = it := by simpa using hb
    subst e
    exact ⟨_, st, fun v z => by
      have z' : Data.fields _ = Data.cell v := z
      cases z'⟩
  keep := fun i h h' st k => k it (by simp) _ st
  item := by
    intro X hP hw hK hc i pins s σ H E I hf st hg
    subst hP hw hK
    obtain ⟨f0, f1, f2, f3, f4, f5⟩ := hf it (by simp)
    have W := Walks.range (prog := X.prog) (w := X.w) (I.ok.hd hc) it lo 1 n
    refine W.item i s _ _ hg st fun v h' tk hv st' kk => ?_
    obtain ⟨t, rfl⟩ := hv
    have I1 : Inv X pins σ H { s with heap := h', toks := tk } := I.turned (fun b o hb e => kk b o (by simpa using hb) e) f0 f1 f3 f4 f5
    refine ⟨_, rfl, go_of (s := { s with heap := h', toks := tk }) (n := "range_iterator") st' rfl rfl (by decide) ⟨.int (lo + i), H, I1, ⟨t, ?_⟩, ⟨rfl, rfl⟩, st', fun b hb => (hf b hb).1⟩⟩
    rw [Int.mul_one]
  done := by
    intro X hP hw hK hc i pins s σ H E I hf st hg
    subst hP hw hK
    obtain ⟨f0, f1, f2, f3, f4, f5⟩ := hf it (by simp)
    exact wpAny_pyNext_range_end (I.ok.hd hc) st (by have : n ≤ i := hg; omega) fun h' eb => ⟨rfl, I.turned (t' := s.toks) (fun b o hb e => eb b o hb e) f0 f1 f3 f4 f5⟩
  self := fun _ _ _ _ _ st h => wpAny_pyIter_rangeiter st h
end L2

namespace L2
open PySem PySem.Spec PyProof.Rows
section
variable {X : Cx} {tg : Expr}
def iTup (K : PySem.W.Frag) (tl : TE) : TI := fun σ H R => tl σ H fun x H1 => ∃ a, x = .ref a ∧ (∃ xs, SqT K H1 a xs) ∧ R (Itt K a) H1
theorem pi_tup {l : Expr} {tl : TE} (hl : PE X l tl) : PI X tg l (iTup X.K tl) := by
  intro pins s σ H R I h
  refine thn (hl pins s σ H _ I h) fun v s1 ⟨x, H1, I1, r1, q1⟩ => ?_
  obtain ⟨a, e, ⟨xs, hq⟩, q⟩ := q1
  subst e
  cases r1
  obtain ⟨its, rv, p, hz⟩ := I1.tuple hq
  refine wpAny_pyIter_tuple (show s1.heap.IsTuple a its.toArray from p) ?_
  refine ⟨s1.heap.objs.size, [s1.heap.objs.size], _, _, H1, rfl, I1.kept (t' := s1.toks) fun b o e => Heap.get?_push_of_some _ e, turn_tuple a _, ⟨_, Heap.get?_push_size _ rfl, rfl, rfl⟩, fun b hb => ?_, q⟩
  have e : b = s1.heap.objs.size := by simpa using hb
  subst e
  exact I1.fpOk (Nat.le_refl _) (I1.hok.fresh (Nat.le_refl _))
/-- a range object just made, walked -/
theorem range_it {pins : List (Addr × Obj)} {σ : St} {H : Hp} {s : Shared} {R : It → Hp → Prop} {E : Value → Shared → Prop} {lo hi : Int} {t u v : Tok} {tk : Nat} (I : Inv X pins σ H s) (h1 : -(2 ^ 62) ≤ lo) (h2 : lo < 2 ^ 62) (h3 : -(2 ^ 62) ≤ hi) (h4 : hi < 2 ^ 62)
    (q : R (Itr lo (hi - lo).toNat) H) : wpAny (model X.prog X.w) X.A (pyIter (.ref s.heap.objs.size)) (PIE X pins σ tg R) E { s with heap := s.heap.push { cls := .type "range", data := .fields #[.int lo t, .int hi u, .int 1 v] }, toks := tk } := by
  refine wpAny_pyIter_range (IsRange.new ..) (small_one h1 h2 h3 h4) ?_
  have I1 : Inv X pins σ H { s with heap := s.heap.push { cls := .type "range", data := .fields #[.int lo t, .int hi u, .int 1 v] }, toks := tk } := I.kept fun b o e => Heap.get?_push_of_some _ e
  refine ⟨(s.heap.push { cls := .type "range", data := .fields #[.int lo t, .int hi u, .int 1 v] }).objs.size, [(s.heap.push { cls := .type "range", data := .fields #[.int lo t, .int hi u, .int 1 v] }).objs.size], _, _, H, rfl,
    I1.kept (t' := tk) fun b o e => Heap.get?_push_of_some _ e, turn_range _ lo (hi - lo).toNat, ?_, fun b hb => ?_, q⟩
  · have e1 : lo + ((0 : Nat) : Int) * 1 = lo := by simp
    have e2 : (((hi - lo).toNat : Nat) : Int) - ((0 : Nat) : Int) = Builtin.Range.rangeSize lo hi 1 := by rw [rangeSize_one]; split <;> omega
    show IsRangeIter _ _ (lo + ((0 : Nat) : Int) * 1) ((((hi - lo).toNat : Nat) : Int) - ((0 : Nat) : Int)) 1
    rw [e1, e2]
    exact Heap.get?_push_size _ rfl
  · have e : b = (s.heap.push { cls := .type "range", data := .fields #[.int lo t, .int hi u, .int 1 v] }).objs.size := by simpa using hb
    subst e
    exact I1.fpOk (Nat.le_refl _) (I1.hok.fresh (Nat.le_refl _))
def iRng1 (ta : TA) : TI := fun σ H R => ta σ H fun vs H1 => ∃ j : Int, vs = [.int j] ∧ -(2 ^ 62) ≤ j ∧ j < 2 ^ 62 ∧ R (Itr 0 j.toNat) H1
theorem pi_range1 {a : Expr} {ta : TA} {p pos : Pos} (hg : Gl X "range") (hm : X.mg "range" = none) (ha : PA X [a] ta) (hs : starEach [a] X.env = [(false, eval a X.env)] := by rfl) : PI X tg (.Call (.Name "range" p) [a] [] pos) (iRng1 ta) := by
  intro pins s σ H R I h
  refine Call_ (ld_blt I hg hm boot_range (PyProof.Rows.callWith_type1 (thn (ha pos pins s σ H _ I h) fun us s1 ⟨vs, H1, I1, r1, q1⟩ => ?_) hs rfl))
  obtain ⟨j, e, q1, q2, q⟩ := q1
  subst e
  cases r1 with
  | cons r rr =>
    cases rr
    obtain ⟨t, rfl⟩ := r
    exact call_range_1 (range_it I1 (by omega) (by omega) q1 q2 (by simpa using q))

/-! ### for -/
/-- W: the invariant by the turn and a measure; N: what the body is to reach -/
def tFor (wi : TI) (g : TG) (tb : TS) : TS := fun D σ H => wi σ H fun J H1 => ∃ W : Nat → Nat → St → Hp → Prop, (∃ m, W 0 m σ H1) ∧ ∀ i m σ H, W i m σ H →
  (J.stop i H ∧ D.nx σ H) ∨ (J.go i H ∧ ∃ N : St → Hp → Prop, (∀ σ' H', N σ' H' → ∃ m', m' < m ∧ W (i + 1) m' σ' H') ∧ ∀ x H', J.yld i H x H' → g x σ H' fun σ2 H2 => tb { D with nx := N, ct := N, bk := D.nx } σ2 H2)
/-- the records at fp as they stand -/
def pinsAt (fp : List Addr) (h : Heap) : List (Addr × Obj) := fp.filterMap fun b => (h.get? b).map fun o => (b, o)
theorem mem_pinsAt {fp : List Addr} {h : Heap} {b : Addr} {o : Obj} (hb : b ∈ fp) (e : h.get? b = some o) : (b, o) ∈ pinsAt fp h := List.mem_filterMap.mpr ⟨b, hb, by rw [e]; rfl⟩
theorem of_pinsAt {fp : List Addr} {h : Heap} {p : Addr × Obj} (hp : p ∈ pinsAt fp h) : p.1 ∈ fp ∧ h.get? p.1 = some p.2 := by
  obtain ⟨b, hb, e⟩ := List.mem_filterMap.mp hp
  cases q : h.get? b with
  | none => rw [q] at e; cases e
  | some o =>
    rw [q] at e
    have e' : (b, o) = p := Option.some.inj e
    subst e'
    exact ⟨hb, q⟩
theorem Inv.pinned {pins : List (Addr × Obj)} {σ : St} {H : Hp} {s : Shared} {fp : List Addr} (I : Inv X pins σ H s) (hf : ∀ b ∈ fp, FpOk X pins H b) (ho : ∀ b ∈ fp, ∃ o, s.heap.get? b = some o ∧ ∀ v, o.data ≠ .cell v) : Inv X (pins ++ pinsAt fp s.heap) σ H s :=
  I.pins_of fun p hp => (List.mem_append.mp hp).elim (fun z => I.pin p (List.mem_append_right _ z)) fun z => by
    obtain ⟨hb, e⟩ := of_pinsAt z
    obtain ⟨f0, f1, f2, _⟩ := hf p.1 hb
    obtain ⟨o, e', d⟩ := ho p.1 hb
    rw [e] at e'; cases e'
    exact ⟨e, f0, f1, f2, d⟩
theorem Inv.unpinned {pins pl : List (Addr × Obj)} {σ : St} {H : Hp} {s : Shared} (I : Inv X (pins ++ pl) σ H s) : Inv X pins σ H s := I.pins_of fun p hp => I.pin p (List.mem_append_right _ (List.mem_append_left _ hp))
theorem ps_for {iter : Expr} {body : List Stmt} {wi : TI} {g : TG} {tb : TS} {pos : Pos} (hp : PassesOwn (model X.prog X.w) X.A X.env X.xe) (hc : X.calm = true) (hi : PI X tg iter wi) (hg : PG X tg g) (hb : PSs X body tb)
    (hs : ∀ x, foldedSetIterable iter X.env x = pure x := by intro _; rfl) : PS X (.For tg iter body [] pos) (tFor wi g tb) := by
  intro pins s σ H D I h
  refine wpAny_For (thn (hi pins s σ H _ I h) fun v s1 h1 => thn h1 fun itv s2 h2 => ?_) hs
  obtain ⟨it, fp, tn, J, H2, e, I2, T, st2, f2, W, ⟨m0, w0⟩, turn⟩ := h2
  subst e
  -- what stays true of the iterator's objects through the loop
  have stat : ∀ {H' : Hp}, (∀ b ∈ fp, H' b = none) → ∀ b ∈ fp, FpOk X pins H' b := fun hn b hb => ⟨hn b hb, (f2 b hb).2⟩
  refine codeAny_forLoop_any (fun n s' => ∃ i σ' H', Inv X pins σ' H' s' ∧ tn i s'.heap ∧ (∀ b ∈ fp, H' b = none) ∧ W i n σ' H') ?_ m0 ⟨0, σ, H2, I2, st2, fun b hb => (f2 b hb).1, w0⟩
  rintro n s3 ⟨i, σ3, H3, I3, st3, fr3, w3⟩
  rcases turn i n σ3 H3 w3 with ⟨stop, qn⟩ | ⟨go, N, hN, step⟩
  · refine wpAny_passesOwn hp (thn (T.done X rfl rfl rfl hc i pins s3 σ3 H3 X.xe I3 (stat fr3) st3 stop) fun r s4 ⟨hr, I4⟩ => ?_)
    subst hr
    exact wpAny_execs_nil ⟨σ3, H3, I4, qn⟩
  · refine wpAny_passesOwn hp (thn (T.item X rfl rfl rfl hc i pins s3 σ3 H3 X.xe I3 (stat fr3) st3 go) fun r s4 ⟨u, hr, h4⟩ => ?_)
    subst hr
    refine wpAny_passesOwn hp (thn h4 fun _ s5 ⟨x, H5, I5, r5, y5, st5, fr5⟩ => ?_)
    have I5' := I5.pinned (stat fr5) (T.obj _ _ st5)
    refine wpAny_passesOwn hp (thn (hg _ s5 σ3 H5 x u _ I5' r5 (step x H5 y5)) fun _ s6 ⟨σ6, H6, I6, q6⟩ => ?_)
    refine wpAny_passesOwn hp (thn (hb _ s6 σ6 H6 _ I6 q6) fun f s7 q7 => ?_)
    have again : ∀ {σ7 : St} {H7 : Hp}, Inv X (pins ++ pinsAt fp s5.heap) σ7 H7 s7 → N σ7 H7 → ∃ m, m < n ∧ ∃ i σ' H', Inv X pins σ' H' s7 ∧ tn i s7.heap ∧ (∀ b ∈ fp, H' b = none) ∧ W i m σ' H' := fun {σ7 H7} I7 n7 => by
      obtain ⟨m', hm, w7⟩ := hN σ7 H7 n7
      refine ⟨m', hm, i + 1, σ7, H7, I7.unpinned, T.keep _ _ _ st5 fun b hb o e => (I7.pin (b, o) (List.mem_append_right _ (List.mem_append_right _ (mem_pinsAt hb e)))).1, fun b hb => ?_, w7⟩
      obtain ⟨o, e, d⟩ := T.obj _ _ st5 b hb
      exact (I7.pin (b, o) (List.mem_append_right _ (List.mem_append_right _ (mem_pinsAt hb e)))).2.1
    cases f with
    | next => obtain ⟨σ7, H7, I7, n7⟩ := q7; exact again I7 n7
    | cont => obtain ⟨σ7, H7, I7, n7⟩ := q7; exact again I7 n7
    | brk => obtain ⟨σ7, H7, I7, q7⟩ := q7; exact ⟨σ7, H7, I7.unpinned, q7⟩
    | ret v => obtain ⟨x7, σ7, H7, I7, r7, q7⟩ := q7; exact ⟨x7, σ7, H7, I7.unpinned, r7, q7⟩
end

/-! ### the forms one uses -/
theorem for_tup {K : PySem.W.Frag} {a : Addr} {xs : List V} {g : TG} {tb : TS} {D : Ends} {σ : St} {H : Hp} (Pv : Nat → St → Hp → Prop) (h0 : Pv 0 σ H) (hl : ∀ i σ H, i ≤ xs.length → Pv i σ H → SqT K H a xs)
    (hs : ∀ i x σ H, xs[i]? = some x → Pv i σ H → g x σ H fun σ2 H2 => tb { D with nx := Pv (i + 1), ct := Pv (i + 1), bk := D.nx } σ2 H2) (hd : ∀ σ H, Pv xs.length σ H → D.nx σ H) :
    ∃ W : Nat → Nat → St → Hp → Prop, (∃ m, W 0 m σ H) ∧ ∀ i m σ H, W i m σ H →
      ((Itt K a).stop i H ∧ D.nx σ H) ∨ ((Itt K a).go i H ∧ ∃ N : St → Hp → Prop, (∀ σ' H', N σ' H' → ∃ m', m' < m ∧ W (i + 1) m' σ' H') ∧ ∀ x H', (Itt K a).yld i H x H' → g x σ H' fun σ2 H2 => tb { D with nx := N, ct := N, bk := D.nx } σ2 H2) := by
  refine ⟨fun i m σ H => m = xs.length - i ∧ i ≤ xs.length ∧ Pv i σ H, ⟨xs.length, by simp, Nat.zero_le _, h0⟩, ?_⟩
  rintro i m σ H ⟨rfl, hi, p⟩
  have q := hl i σ H hi p
  by_cases hlt : i < xs.length
  · refine .inr ⟨⟨xs, xs[i], q, by simp [hlt]⟩, Pv (i + 1), fun σ' H' p' => ⟨xs.length - (i + 1), by omega, rfl, hlt, p'⟩, fun x H' y => ?_⟩
    obtain ⟨e, y⟩ := y
    subst e
    exact hs i x σ _ (y xs q) p
  · have e : i = xs.length := by omega
    subst e
    exact .inl ⟨⟨xs, q, Nat.le_refl _⟩, hd σ H p⟩
theorem for_range {lo : Int} {n : Nat} {g : TG} {tb : TS} {D : Ends} {σ : St} {H : Hp} (Pv : Nat → St → Hp → Prop) (h0 : Pv 0 σ H)
    (hs : ∀ i σ H, i < n → Pv i σ H → g (.int (lo + i)) σ H fun σ2 H2 => tb { D with nx := Pv (i + 1), ct := Pv (i + 1), bk := D.nx } σ2 H2) (hd : ∀ σ H, Pv n σ H → D.nx σ H) :
    ∃ W : Nat → Nat → St → Hp → Prop, (∃ m, W 0 m σ H) ∧ ∀ i m σ H, W i m σ H →
      ((Itr lo n).stop i H ∧ D.nx σ H) ∨ ((Itr lo n).go i H ∧ ∃ N : St → Hp → Prop, (∀ σ' H', N σ' H' → ∃ m', m' < m ∧ W (i + 1) m' σ' H') ∧ ∀ x H', (Itr lo n).yld i H x H' → g x σ H' fun σ2 H2 => tb { D with nx := N, ct := N, bk := D.nx } σ2 H2) := by
  refine ⟨fun i m σ H => m = n - i ∧ i ≤ n ∧ Pv i σ H, ⟨n, by simp, Nat.zero_le _, h0⟩, ?_⟩
  rintro i m σ H ⟨rfl, hi, p⟩
  by_cases hlt : i < n
  · refine .inr ⟨hlt, Pv (i + 1), fun σ' H' p' => ⟨n - (i + 1), by omega, rfl, hlt, p'⟩, fun x H' y => ?_⟩
    obtain ⟨e, y⟩ := y
    subst e y
    exact hs i σ _ hlt p
  · have e : i = n := by omega
    subst e
    exact .inl ⟨Nat.le_refl _, hd σ H p⟩
end L2

namespace L2
open PySem PySem.Spec PyProof.Rows

abbrev R2 := V → V → Hp → VK → Prop
/-- a two-place operation on values: f is binaryOp op, inplaceOp op or compareOp op -/
def OpR (X : Cx) (f : Value → Value → Sem Value) (r : R2) : Prop :=
  ∀ (pins : List (Addr × Obj)) (s : Shared) (σ : St) (H : Hp) (x y : V) (v u : Value) (Q : VK), Inv X pins σ H s → RelV x v → RelV y u → r x y H Q →
    wpAny (model X.prog X.w) X.A (f v u) (EP X pins σ Q) X.xe s
/-- a one-place operation -/
def UnR (X : Cx) (f : Value → Sem Value) (r : V → Hp → VK → Prop) : Prop :=
  ∀ (pins : List (Addr × Obj)) (s : Shared) (σ : St) (H : Hp) (x : V) (v : Value) (Q : VK), Inv X pins σ H s → RelV x v → r x H Q →
    wpAny (model X.prog X.w) X.A (f v) (EP X pins σ Q) X.xe s
/-- a call of a value that is known (a builtin, a type) with values -/
def CallR (X : Cx) (f : Value) (r : List V → Hp → VK → Prop) : Prop :=
  ∀ (pins : List (Addr × Obj)) (s : Shared) (σ : St) (H : Hp) (xs : List V) (us : List Value) (Q : VK), Inv X pins σ H s → Vals xs us → r xs H Q →
    wpAny (model X.prog X.w) X.A (call f us) (EP X pins σ Q) X.xe s

def tOp (r : R2) (ta tb : TE) : TE := fun σ H Q => ta σ H fun x H1 => tb σ H1 fun y H2 => r x y H2 Q
def tUn (r : V → Hp → VK → Prop) (ta : TE) : TE := fun σ H Q => ta σ H fun x H1 => r x H1 Q
/-- ints in, under C, and a value out -/
def rI (C : Int → Int → Prop) (g : Int → Int → V) : R2 := fun x y H Q => ∃ i j, x = .int i ∧ y = .int j ∧ C i j ∧ Q (g i j) H
def rI0 (g : Int → Int → V) : R2 := fun x y H Q => ∃ i j, x = .int i ∧ y = .int j ∧ Q (g i j) H
def rU (g : Int → V) : V → Hp → VK → Prop := fun x H Q => ∃ i, x = .int i ∧ Q (g i) H

section
variable {X : Cx} {a b c : Expr} {ta tb tc : TE} {pos : Pos}

theorem binT (ha : PE X a ta) (hb : PE X b tb) {pins : List (Addr × Obj)} {s : Shared} {σ : St} {H : Hp} {R : V → V → Hp → Prop} (I : Inv X pins σ H s)
    (h : ta σ H fun x H1 => tb σ H1 fun y H2 => R x y H2) {Q : Value → Shared → Prop} {f : Value → Value → Sem Value}
    (hf : ∀ v u s2 x y H2, Inv X pins σ H2 s2 → RelV x v → RelV y u → R x y H2 → wpAny (model X.prog X.w) X.A (f v u) Q X.xe s2) :
    wpAny (model X.prog X.w) X.A (eval a X.env) (fun v s₁ => wpAny (model X.prog X.w) X.A (eval b X.env) (fun u s₂ => wpAny (model X.prog X.w) X.A (f v u) Q X.xe s₂) X.xe s₁) X.xe s := by
  refine thn (ha pins s σ H _ I h) fun v s1 ⟨x, H1, I1, r1, q1⟩ => ?_
  refine thn (hb pins s1 σ H1 _ I1 q1) fun u s2 ⟨y, H2, I2, r2, q2⟩ => ?_
  exact hf v u s2 x y H2 I2 r1 r2 q2

theorem pe_op {op : Operator} {r : R2} (ho : OpR X (binaryOp op) r) (ha : PE X a ta) (hb : PE X b tb) : PE X (.BinOp a op b pos) (tOp r ta tb) := by
  intro pins s σ H Q I h
  exact wpAny_BinOp (binT ha hb I h fun v u s2 x y H2 I2 rx ry q => ho pins s2 σ H2 x y v u Q I2 rx ry q)
theorem pe_un {op : UnaryOp} {r : V → Hp → VK → Prop} (ho : UnR X (unaryOp op) r) (ha : PE X a ta) : PE X (.UnaryOp op a pos) (tUn r ta) := by
  intro pins s σ H Q I h
  exact UnaryOp_ (thn (ha pins s σ H _ I h) fun v s1 ⟨x, H1, I1, r1, q1⟩ => ho pins s1 σ H1 x v Q I1 r1 q1)

/-! ### ints -/
theorem opI {f : Value → Value → Sem Value} {C : Int → Int → Prop} {g : Int → Int → Int}
    (rule : ∀ (i j : Int) (t u : Tok) (s : Shared) (Q : Value → Shared → Prop) (E : Value → Shared → Prop), C i j → Q (.int (g i j) s.toks) { s with toks := s.toks + 1 } → wpAny (model X.prog X.w) X.A (f (.int i t) (.int j u)) Q E s) :
    OpR X f (rI C fun i j => .int (g i j)) := by
  intro pins s σ H x y v u Q I rx ry h
  obtain ⟨i, j, rfl, rfl, hc, q⟩ := h
  obtain ⟨t, rfl⟩ := rx
  obtain ⟨t', rfl⟩ := ry
  exact rule i j t t' s _ _ hc ⟨.int (g i j), H, I.tok _, ⟨_, rfl⟩, q⟩
theorem opI0 {f : Value → Value → Sem Value} {g : Int → Int → Int}
    (rule : ∀ (i j : Int) (t u : Tok) (s : Shared) (Q : Value → Shared → Prop) (E : Value → Shared → Prop), Q (.int (g i j) s.toks) { s with toks := s.toks + 1 } → wpAny (model X.prog X.w) X.A (f (.int i t) (.int j u)) Q E s) :
    OpR X f (rI0 fun i j => .int (g i j)) := by
  intro pins s σ H x y v u Q I rx ry h
  obtain ⟨i, j, rfl, rfl, q⟩ := h
  obtain ⟨t, rfl⟩ := rx
  obtain ⟨t', rfl⟩ := ry
  exact rule i j t t' s _ _ ⟨.int (g i j), H, I.tok _, ⟨_, rfl⟩, q⟩
theorem opB0 {f : Value → Value → Sem Value} {g : Int → Int → Bool}
    (rule : ∀ (i j : Int) (t u : Tok) (s : Shared) (Q : Value → Shared → Prop) (E : Value → Shared → Prop), Q (.bool (g i j)) s → wpAny (model X.prog X.w) X.A (f (.int i t) (.int j u)) Q E s) :
    OpR X f (rI0 fun i j => .bl (g i j)) := by
  intro pins s σ H x y v u Q I rx ry h
  obtain ⟨i, j, rfl, rfl, q⟩ := h
  obtain ⟨t, rfl⟩ := rx
  obtain ⟨t', rfl⟩ := ry
  exact rule i j t t' s _ _ ⟨.bl (g i j), H, I, rfl, q⟩

def CPow (i j : Int) : Prop := 0 ≤ j ∧ j ≤ 1000000 ∧ i.natAbs < 2 ^ 64

theorem op_add : OpR X (binaryOp .Add) (rI0 fun i j => .int (i + j)) := opI0 fun _ _ _ _ _ _ _ q => add_int q
theorem op_sub : OpR X (binaryOp .Sub) (rI0 fun i j => .int (i - j)) := opI0 fun _ _ _ _ _ _ _ q => sub_int q
theorem op_modN : OpR X (binaryOp .Mod) (rI (fun _ j => j ≠ 0) fun i j => .int (i.fmod j)) := opI fun _ _ _ _ _ _ _ hc q => mod_int' hc q
theorem op_pow : OpR X (binaryOp .Pow) (rI CPow fun i j => .int (i ^ j.toNat)) := opI fun _ _ _ _ _ _ _ hc q => pow_int_small hc.1 hc.2.1 hc.2.2 q


theorem unI {f : Value → Sem Value} {g : Int → Int}
    (rule : ∀ (i : Int) (t : Tok) (s : Shared) (Q : Value → Shared → Prop) (E : Value → Shared → Prop), Q (.int (g i) s.toks) { s with toks := s.toks + 1 } → wpAny (model X.prog X.w) X.A (f (.int i t)) Q E s) :
    UnR X f (rU fun i => .int (g i)) := by
  intro pins s σ H x v Q I rx h
  obtain ⟨i, rfl, q⟩ := h
  obtain ⟨t, rfl⟩ := rx
  exact rule i t s _ _ ⟨.int (g i), H, I.tok _, ⟨_, rfl⟩, q⟩
theorem un_neg : UnR X (unaryOp .USub) (rU fun i => .int (-i)) := unI fun _ _ _ _ _ q => neg_int q

/-! ### bools among ints: n += (a < b) -/
end

/-! ### comparisons -/
/-- the scalars that == tells apart as data does -/
def scal : V → V → Bool
  | .non, .non => true | .non, .int _ => true | .int _, .non => true | .non, .bl _ => true | .bl _, .non => true | .non, .str _ => true | .str _, .non => true
  | .int _, .int _ => true | .bl _, .bl _ => true | .str _, .str _ => true | .byt _, .byt _ => true
  | .int _, .str _ => true | .str _, .int _ => true | .bl _, .str _ => true | .str _, .bl _ => true
  | _, _ => false
def rEq : R2 := fun x y H Q => scal x y = true ∧ Q (.bl (decide (x = y))) H
def rNe : R2 := fun x y H Q => scal x y = true ∧ Q (.bl (!decide (x = y))) H

theorem dec_int {i j : Int} : decide (V.int i = V.int j) = (i == j) := by
  rw [Bool.eq_iff_iff]
  simp
theorem dec_bl {i j : Bool} : decide (V.bl i = V.bl j) = (i == j) := by
  rw [Bool.eq_iff_iff]
  simp
theorem dec_str {i j : Str} : decide (V.str i = V.str j) = (i == j) := by
  rw [Bool.eq_iff_iff]
  simp
theorem dec_byt {i j : Array UInt8} : decide (V.byt i = V.byt j) = (i.toList == j.toList) := by
  rw [Bool.eq_iff_iff]
  cases i
  cases j
  simp

section
variable {X : Cx} {a b c : Expr} {ta tb tc : TE} {pos : Pos}
theorem fin_bl {pins : List (Addr × Obj)} {σ : St} {H : Hp} {s : Shared} {Q : VK} {k k' : Bool} (I : Inv X pins σ H s) (q : Q (.bl k) H) (e : k = k') : EP X pins σ Q (.bool k') s := by
  subst e
  exact ⟨.bl k, H, I, rfl, q⟩
theorem op_eq : OpR X (compareOp .Eq) rEq := by
  intro pins s σ H x y v u Q I rx ry h
  obtain ⟨hs, q⟩ := h
  cases x with
  | non =>
    cases rx
    cases y with
    | non => cases ry; exact PySem.EqNone.eq_none_none (fin_bl I q (by simp))
    | bl j => cases ry; exact PySem.EqNone.eq_none_bool (fin_bl I q (by simp))
    | int j => obtain ⟨t', rfl⟩ := ry; exact PySem.EqNone.eq_none_int (fin_bl I q (by simp))
    | str j => obtain ⟨t', rfl⟩ := ry; exact PySem.EqNone.eq_none_str (fin_bl I q (by simp))
    | _ => exact absurd (show false = true from hs) Bool.false_ne_true
  | bl i =>
    cases rx
    cases y with
    | non => cases ry; exact PySem.EqNone.eq_bool_none (fin_bl I q (by simp))
    | bl j => cases ry; exact eq_bool (fin_bl I q dec_bl)
    | str j => obtain ⟨t', rfl⟩ := ry; exact PySem.EqMixed.eq_bool_str (fin_bl I q (by simp))
    | _ => exact absurd (show false = true from hs) Bool.false_ne_true
  | int i =>
    obtain ⟨t, rfl⟩ := rx
    cases y with
    | non => cases ry; exact PySem.EqNone.eq_int_none (fin_bl I q (by simp))
    | int j => obtain ⟨t', rfl⟩ := ry; exact eq_int (fin_bl I q dec_int)
    | str j => obtain ⟨t', rfl⟩ := ry; exact PySem.EqMixed.eq_int_str (fin_bl I q (by simp))
    | _ => exact absurd (show false = true from hs) Bool.false_ne_true
  | str i =>
    obtain ⟨t, rfl⟩ := rx
    cases y with
    | non => cases ry; exact PySem.EqNone.eq_str_none (fin_bl I q (by simp))
    | bl j => cases ry; exact PySem.EqMixed.eq_str_bool (fin_bl I q (by simp))
    | int j => obtain ⟨t', rfl⟩ := ry; exact PySem.EqMixed.eq_str_int (fin_bl I q (by simp))
    | str j => obtain ⟨t', rfl⟩ := ry; exact eq_str (fin_bl I q dec_str)
    | _ => exact absurd (show false = true from hs) Bool.false_ne_true
  | byt i =>
    obtain ⟨t, rfl⟩ := rx
    cases y with
    | byt j => obtain ⟨t', rfl⟩ := ry; exact PySem.W.eq_bytes (fin_bl I q dec_byt)
    | _ => exact absurd (show false = true from hs) Bool.false_ne_true
  | _ => cases y <;> exact absurd (show false = true from hs) Bool.false_ne_true
theorem op_ne : OpR X (compareOp .NotEq) rNe := by
  intro pins s σ H x y v u Q I rx ry h
  obtain ⟨hs, q⟩ := h
  cases x with
  | non =>
    cases rx
    cases y with
    | non => cases ry; exact PySem.EqNone.ne_none_none (fin_bl I q (by simp))
    | bl j => cases ry; exact PySem.EqNone.ne_none_bool (fin_bl I q (by simp))
    | int j => obtain ⟨t', rfl⟩ := ry; exact PySem.EqNone.ne_none_int (fin_bl I q (by simp))
    | str j => obtain ⟨t', rfl⟩ := ry; exact PySem.EqNone.ne_none_str (fin_bl I q (by simp))
    | _ => exact absurd (show false = true from hs) Bool.false_ne_true
  | bl i =>
    cases rx
    cases y with
    | non => cases ry; exact PySem.EqNone.ne_bool_none (fin_bl I q (by simp))
    | bl j => cases ry; exact ne_bool (fin_bl I q (congrArg not dec_bl))
    | str j => obtain ⟨t', rfl⟩ := ry; exact PySem.EqMixed.ne_bool_str (fin_bl I q (by simp))
    | _ => exact absurd (show false = true from hs) Bool.false_ne_true
  | int i =>
    obtain ⟨t, rfl⟩ := rx
    cases y with
    | non => cases ry; exact PySem.EqNone.ne_int_none (fin_bl I q (by simp))
    | int j => obtain ⟨t', rfl⟩ := ry; exact ne_int (fin_bl I q (congrArg not dec_int))
    | str j => obtain ⟨t', rfl⟩ := ry; exact PySem.EqMixed.ne_int_str (fin_bl I q (by simp))
    | _ => exact absurd (show false = true from hs) Bool.false_ne_true
  | str i =>
    obtain ⟨t, rfl⟩ := rx
    cases y with
    | non => cases ry; exact PySem.EqNone.ne_str_none (fin_bl I q (by simp))
    | bl j => cases ry; exact PySem.EqMixed.ne_str_bool (fin_bl I q (by simp))
    | int j => obtain ⟨t', rfl⟩ := ry; exact PySem.EqMixed.ne_str_int (fin_bl I q (by simp))
    | str j => obtain ⟨t', rfl⟩ := ry; exact ne_str (fin_bl I q (congrArg not dec_str))
    | _ => exact absurd (show false = true from hs) Bool.false_ne_true
  | byt i =>
    obtain ⟨t, rfl⟩ := rx
    cases y with
    | byt j => obtain ⟨t', rfl⟩ := ry; exact PySem.W.ne_bytes (fin_bl I q (congrArg not dec_byt))
    | _ => exact absurd (show false = true from hs) Bool.false_ne_true
  | _ => cases y <;> exact absurd (show false = true from hs) Bool.false_ne_true

theorem op_lt : OpR X (compareOp .Lt) (rI0 fun i j => .bl (decide (i < j))) := opB0 fun _ _ _ _ _ _ _ q => lt_int q
theorem op_gt : OpR X (compareOp .Gt) (rI0 fun i j => .bl (decide (j < i))) := opB0 fun _ _ _ _ _ _ _ q => gt_int q
theorem op_ge : OpR X (compareOp .GtE) (rI0 fun i j => .bl (decide (j ≤ i))) := opB0 fun _ _ _ _ _ _ _ q => ge_int q
/-- the one string within the other -/
theorem op_in_str : OpR X (compareOp .In) (fun x y H Q => ∃ i j, x = .str i ∧ y = .str j ∧ Q (.bl (!(Builtin.Str.occurrences j i 0 j.length 1).isEmpty)) H) := by
  intro pins s σ H x y v u Q I rx ry h
  obtain ⟨i, j, rfl, rfl, q⟩ := h
  obtain ⟨t, rfl⟩ := rx
  obtain ⟨t', rfl⟩ := ry
  exact in_str (fin_bl I q rfl)

/-- is None, is not None: the right side a value none -/
theorem op_isN : OpR X (compareOp .Is) (fun x y H Q => y = .non ∧ Q (.bl (decide (x = .non))) H) := by
  intro pins s σ H x y v u Q I rx ry h
  obtain ⟨rfl, q⟩ := h
  cases ry
  refine is_none_gen (fin_bl I q ?_)
  cases x <;> first
    | (cases rx; rfl)
    | (obtain ⟨t, rfl⟩ := rx; rfl)



theorem nomark (b : Expr) {op : CmpOp} (h : op ≠ .In := by decide) (h2 : op ≠ .NotIn := by decide) : behindInMarks op b = false := by
  have e1 : (op == CmpOp.In) = false := by cases op <;> first | rfl | exact absurd rfl h
  have e2 : (op == CmpOp.NotIn) = false := by cases op <;> first | rfl | exact absurd rfl h2
  cases b <;> simp [behindInMarks, e1, e2]
/-- a comparison as a value; hm: nomark b, or (for in, not in) by with_unfolding_all rfl -/
theorem pe_cmpR {op : CmpOp} {r : R2} (ho : OpR X (compareOp op) r) (ha : PE X a ta) (hb : PE X b tb) (hm : behindInMarks op b = false) : PE X (.Compare a [op] [b] pos) (tOp r ta tb) := by
  intro pins s σ H Q I h
  exact wpAny_Compare1 (binT ha hb I h fun v u s2 x y H2 I2 rx ry q => ho pins s2 σ H2 x y v u Q I2 rx ry q) hm
/-- a reading of a value as a test -/
def tTest (t : TE) : TT := fun σ H Q => t σ H fun x H' => ∃ k, x = .bl k ∧ Q k H'
theorem pt_cmpR {op : CmpOp} {r : R2} (ho : OpR X (compareOp op) r) (ha : PE X a ta) (hb : PE X b tb) (hm : behindInMarks op b = false) : PT X (.Compare a [op] [b] pos) (tTest (tOp r ta tb)) := by
  intro pins s σ H Q I h
  refine wpAny_isTrue_Compare1 (thn (ha pins s σ H _ I h) fun v s1 ⟨x, H1, I1, r1, q1⟩ => thn (hb pins s1 σ H1 _ I1 q1) fun u s2 ⟨y, H2, I2, r2, q2⟩ =>
    thn (ho pins s2 σ H2 x y v u _ I2 r1 r2 q2) fun c s3 ⟨z, H3, I3, r3, k, e, q3⟩ => ?_) hm
  subst e
  cases r3
  exact wpAny_truthy_bool ⟨H3, I3, q3⟩

/-! ### truth -/
theorem line63 : (sizeLine : Nat) < 2 ^ 63 := by rw [sizeLine_eq]; decide

/-! ### strs and bytes -/
theorem op_add_str : OpR X (binaryOp .Add) (fun x y H Q => ∃ i j, x = .str i ∧ y = .str j ∧ i.length + j.length ≤ sizeLine ∧ Q (.str (i ++ j)) H) := by
  intro pins s σ H x y v u Q I rx ry h
  obtain ⟨i, j, rfl, rfl, hz, q⟩ := h
  obtain ⟨t, rfl⟩ := rx
  obtain ⟨t', rfl⟩ := ry
  exact add_str (fun t' tk => ⟨.str (i ++ j), H, I.tok _, ⟨_, rfl⟩, q⟩) hz


/-! ### scalar builtins, by CallR -/
theorem vals1 {x : V} {us : List Value} (r : Vals [x] us) : ∃ u, us = [u] ∧ RelV x u := by
  cases r with
  | cons r1 r2 => cases r2; exact ⟨_, rfl, r1⟩
theorem vals2 {x y : V} {us : List Value} (r : Vals [x, y] us) : ∃ u w', us = [u, w'] ∧ RelV x u ∧ RelV y w' := by
  cases r with
  | cons r1 r2 =>
    cases r2 with
    | cons r3 r4 => cases r4; exact ⟨_, _, rfl, r1, r3⟩
theorem call_abs : CallR X (.builtin "abs") (fun xs H Q => ∃ i, xs = [.int i] ∧ Q (.int (if i < 0 then -i else i)) H) := by
  intro pins s σ H xs us Q I r h
  obtain ⟨i, rfl, q⟩ := h
  obtain ⟨u, rfl, t, rfl⟩ := vals1 r
  exact call_abs_int fun u tk => ⟨.int (if i < 0 then -i else i), H, I.tok _, ⟨_, rfl⟩, q⟩
theorem call_max2 (hc : X.calm = true) : CallR X (.builtin "max") (fun xs H Q => ∃ i j, xs = [.int i, .int j] ∧ Q (.int (if j > i then j else i)) H) := by
  intro pins s σ H xs us Q I r h
  obtain ⟨i, j, rfl, q⟩ := h
  obtain ⟨u, w', rfl, ⟨t, rfl⟩, ⟨t', rfl⟩⟩ := vals2 r
  refine max_two_ints (I.ok.hd hc) fun h' tk k => ⟨_, H, I.kept k, ?_, q⟩
  by_cases hj : j > i
  · rw [if_pos hj, if_pos hj]; exact ⟨_, rfl⟩
  · rw [if_neg hj, if_neg hj]; exact ⟨_, rfl⟩
theorem call_str_int : CallR X (.type "str") (fun xs H Q => ∃ i, xs = [.int i] ∧ i.natAbs.log2 < 1920 ∧ Q (.str (toString i)) H) := by
  intro pins s σ H xs us Q I r h
  obtain ⟨i, rfl, hz, q⟩ := h
  obtain ⟨u, rfl, t, rfl⟩ := vals1 r
  exact PySem.P.str_of_int hz ⟨.str _, H, I.tok _, ⟨_, rfl⟩, q⟩
end
end L2

namespace L2
open PySem PySem.Spec PyProof.Rows

/-! ### an instance, its attributes a map -/
structure ObjM (h : Heap) (x dx C : Addr) (mA : Str → Option Value) : Prop where
  obj : h.get? x = some (PySem.W.instObj C dx)
  ns : h.Ns1 dx mA
  ne : dx ≠ x

theorem lookIn_ns {h : Heap} {dx : Addr} {mA : Str → Option Value} (n : h.Ns1 dx mA) : ∃ od, h.get? dx = some od ∧ ∀ name, PySem.W.lookIn name od = some (mA name) := by
  obtain ⟨o, es, ep, ho, hd, hk, _, hm⟩ := n
  refine ⟨o, ho, fun name => ?_⟩
  have e := hm name
  unfold nsFind findBy at e
  rw [← Array.find?_toList] at e
  unfold PySem.W.lookIn
  rw [hd]
  dsimp only
  split
  · rename_i y q
    rw [q] at e
    exact congrArg some e
  · rename_i q
    rw [q] at e
    have a : es.toList.any (·.refKey) = false := by
      rw [List.any_eq_false]
      intro y hy
      obtain ⟨z, t, hkey⟩ := hk y (Array.mem_toList_iff.mp hy)
      simp [DictEntry.refKey, hkey]
    have a' : ¬ es.toList.any (·.refKey) = true := by rw [a]; exact Bool.false_ne_true
    rw [if_neg a']
    exact congrArg some e

theorem ObjM.look {h : Heap} {x dx C : Addr} {mA : Str → Option Value} (I : ObjM h x dx C mA) : ∃ od, PySem.W.InstAt h x (PySem.W.instObj C dx) C (some od) ∧ ∀ name, PySem.W.lookIn name od = some (mA name) :=
  let ⟨od, ho, hl⟩ := lookIn_ns I.ns
  ⟨od, ⟨I.obj, rfl, rfl, ho⟩, hl⟩

section
variable {prog : Program} {w : World} {A : Around} {E : Value → Shared → Prop} {s : Shared} {K : PySem.W.Frag} {x dx C f : Addr} {mA : Str → Option Value} {name : Str} {v : Value}





end

/-! ### the attributes as a list of pairs -/


section
variable {P : Program} {w : World} {H H' : Hp} {h h' : Heap} {a C dx : Addr} {fs fs' : List (Str × V)}
theorem ins_get (hok : HOk P w H h) (e : H a = some (.ins C dx fs)) : ∃ mA, ObjM h a dx C mA ∧ (∀ f, RelO (fs.lookup f) (mA f)) ∧ PySem.Within mA (fs.map (·.1)) ∧ fs.length ≤ 1000 ∧ H dx = some (.own a) := by
  obtain ⟨d, z, ne, ob, mA, n, r, q⟩ := (show ObjOk P w H h a (.ins C dx fs) from hok a _ e)
  exact ⟨mA, ⟨ob, n, ne⟩, r, q, z, d⟩
end

/-! ### what of the text a class must have -/
structure Cls (K : PySem.W.Frag) (C : Addr) : Prop where
  pg : PySem.W.plainGet K C Str.empty = true
  hd : PySem.W.hasDictIn K C = true
  po : PySem.W.plainOver K C = true
  sa : PySem.W.findIn K (.ref C) "__setattr__" = some (some (.builtin "object.__setattr__"))
theorem Cls.get {K : PySem.W.Frag} {C : Addr} (c : Cls K C) (f : Str) : PySem.W.plainGet K C f = true := c.pg

section
variable {X : Cx} {pins : List (Addr × Obj)} {σ : St} {H : Hp} {s : Shared} {a C dx : Addr} {fs : List (Str × V)} {f : Str} {v : V} {A : Around} {E : Value → Shared → Prop}






end

/-! ### readings and rules -/

section
variable {X : Cx} {o e value : Expr} {f : Str} {pos pos' tpos : Pos} {ta tv : TE}

end

/-! ### isinstance -/
section
variable {X : Cx} {pins : List (Addr × Obj)} {σ : St} {H : Hp} {s : Shared} {A : Around} {E : Value → Shared → Prop} {Q : Value → Shared → Prop} {c : Value} {b : Bool}
/-- the type of a value, as the fragment's deciders take it; for an instance its class -/
inductive TyOf (K : PySem.W.Frag) (H : Hp) : V → Value → Prop where
  | non : TyOf K H .non (.type "NoneType")
  | bl (x : Bool) : TyOf K H (.bl x) (.type "bool")
  | int (i : Int) : TyOf K H (.int i) (.type "int")
  | str (x : Str) : TyOf K H (.str x) (.type "str")
  | flt (x : UInt64) : TyOf K H (.flt x) (.type "float")
  | lst {a : Addr} {xs : List V} (e : H a = some (.lst xs)) : TyOf K H (.ref a) (.type "list")
  | frz {a : Addr} {o : Obj} {xs : List V} (e : H a = some (.frz o (.lst xs))) : TyOf K H (.ref a) (.type "list")
  | tup {a : Addr} {xs : List V} (e : H a = some (.tup xs)) : TyOf K H (.ref a) (.type "tuple")
  | dK {a : Addr} {kvs : List (Key × V)} (e : H a = some (.dK kvs)) : TyOf K H (.ref a) (.type "dict")
  | dT {a : Addr} {kvs : List (List Key × V)} (e : H a = some (.dT kvs)) : TyOf K H (.ref a) (.type "dict")
  | ins {a C dx : Addr} {fs : List (Str × V)} (e : H a = some (.ins C dx fs)) (cl : Cls K C) (ha : PySem.W.findIn K (.ref C) "__class__" = some (some (.builtin "object.__class__")))
      (hn : PySem.W.specialIn K (.builtin "object.__class__") "__get__" = some (some (.builtin "getset_descriptor.__get__"))) (htk : PySem.W.takesIn K (.builtin "object.__class__") = some true)
      (hm : PySem.W.mroIn K C (.type "object") = some true) : TyOf K H (.ref a) (.ref C)
/-- isinstance(x, c) for one class c, a built-in or an own one: kitOne's answer -/
theorem isinst_ok {x : V} {u t : Value} (I : Inv X pins σ H s) (rx : RelV x u) (ty : TyOf X.K H x t) (e : PySem.W.kitOne X.K t c = some b) (h : ∀ tk, Q (.bool b) { s with toks := tk }) :
    wpAny (model X.prog X.w) A (call (.builtin "isinstance") [u, c]) Q E s := by
  cases ty with
  | non => cases (show u = Value.none from rx); exact PySem.W.kia_one PySem.W.kitx_none I.kIn True.intro e (fun z => nomatch z) h
  | bl y => cases (show u = Value.bool y from rx); exact PySem.W.kia_one PySem.W.kitx_bool I.kIn True.intro e (fun z => nomatch z) h
  | int i => obtain ⟨t, q⟩ := (show ∃ t, u = Value.int i t from rx); cases q; exact PySem.W.kia_one PySem.W.kitx_int I.kIn True.intro e (fun z => nomatch z) h
  | str y => obtain ⟨t, q⟩ := (show ∃ t, u = Value.str y t from rx); cases q; exact PySem.W.kia_one PySem.W.kitx_str I.kIn True.intro e (fun z => nomatch z) h
  | flt y => obtain ⟨t, q⟩ := (show ∃ t, u = Value.float y t from rx); cases q; exact PySem.W.kia_one PySem.W.kitx_float I.kIn True.intro e (fun z => nomatch z) h
  | @lst a xs ea =>
    cases (show u = Value.ref a from rx)
    obtain ⟨_, _, n, _, h1⟩ := (show ObjOk X.prog X.w H s.heap a (.lst xs) from I.hok a _ ea)
    exact PySem.W.kia_one PySem.W.kitx_list I.kIn ⟨_, h1, rfl⟩ e (fun z => nomatch z) h
  | @frz a ob xs ea =>
    cases (show u = Value.ref a from rx)
    obtain ⟨_, _, _, n, _, h1⟩ := (show ObjOk X.prog X.w H s.heap a (.frz ob (.lst xs)) from I.hok a _ ea)
    exact PySem.W.kia_one PySem.W.kitx_list I.kIn ⟨_, h1, rfl⟩ e (fun z => nomatch z) h
  | @tup a xs ea =>
    cases (show u = Value.ref a from rx)
    obtain ⟨_, _, _, p⟩ := (show ObjOk X.prog X.w H s.heap a (.tup xs) from I.hok a _ ea)
    obtain ⟨o, h1, h2, _⟩ := p
    exact PySem.W.kia_one PySem.W.kitx_tuple I.kIn ⟨o, h1, h2⟩ e (fun z => nomatch z) h
  | @dK a kvs ea =>
    cases (show u = Value.ref a from rx)
    obtain ⟨_, _, vs, _, p⟩ := (show ObjOk X.prog X.w H s.heap a (.dK kvs) from I.hok a _ ea)
    obtain ⟨o, es, ep, h1, h2, _⟩ := p
    exact PySem.W.kia_one PySem.W.kitx_dict I.kIn ⟨o, h1, h2.1⟩ e (fun z => nomatch z) h
  | @dT a kvs ea =>
    cases (show u = Value.ref a from rx)
    obtain ⟨_, _, xs, _, o, es, ep, h1, h2, _⟩ := (show ObjOk X.prog X.w H s.heap a (.dT kvs) from I.hok a _ ea)
    exact PySem.W.kia_one PySem.W.kitx_dict I.kIn ⟨o, h1, h2.1⟩ e (fun z => nomatch z) h
  | @ins a C dx fs ea cl ha hn htk hm =>
    cases (show u = Value.ref a from rx)
    obtain ⟨mA, O, _⟩ := ins_get I.hok ea
    obtain ⟨od, J, _⟩ := O.look
    exact PySem.W.kia_one (PySem.W.kitx_own (cl.get _) cl.hd ha hn htk hm) I.kIn J e (fun z => nomatch z) h
end
end L2

namespace L2
open PySem PySem.Spec PyProof.Rows

/-! ### room -/
structure Room (k : Nat) (A : Around) : Prop where
  hd : A.handled = none
  dp : A.depth + 3 * k + 5 < recursionLimit
  un : A.units + 16 * k + 200 < cLine
theorem Room.mono {j k : Nat} {A : Around} (r : Room k A) (h : j ≤ k) : Room j A := ⟨r.hd, by have := r.dp; omega, by have := r.un; omega⟩
theorem Room.deeper {k : Nat} {A : Around} (r : Room (k + 1) A) (env : Env) : Room k (A.deeper env) :=
  ⟨r.hd, by have := r.dp; show A.depth + 1 + 3 * k + 5 < _; omega, by have := r.un; show A.units + 3 + 16 * k + 200 < _; omega⟩
theorem Room.depth {k : Nat} {A : Around} (r : Room k A) : A.depth < recursionLimit := by have := r.dp; omega

/-! ### argument lists and displays -/
def tNil : TA := fun _ H Q => Q [] H
def tCons (ta : TE) (tr : TA) : TA := fun σ H Q => ta σ H fun x H1 => tr σ H1 fun xs H2 => Q (x :: xs) H2
section
variable {X : Cx} {e : Expr} {es : List Expr} {te : TE} {t : TA} {pos : Pos}
theorem pa_nil : PA X [] tNil := fun _ _ _ _ H Q I h => Calls.spliced_nil ⟨[], H, I, .nil, h⟩
theorem pa_cons (ha : PE X e te) (hr : PA X es t) (hs : starEach (e :: es) X.env = (false, eval e X.env) :: starEach es X.env := by rfl) : PA X (e :: es) (tCons te t) := by
  intro pos pins s σ H Q I h
  rw [hs]
  show wpAny _ _ (spliced ((false, eval e X.env) :: backTo pos (starEach es X.env))) _ _ s
  refine Calls.spliced_cons (thn (ha pins s σ H _ I h) fun u s1 ⟨x, H1, I1, r1, q1⟩ => ?_)
  exact thn (hr pos pins s1 σ H1 _ I1 q1) fun us s2 ⟨xs, H2, I2, r2, q2⟩ => ⟨x :: xs, H2, I2, .cons r1 r2, q2⟩

/-- a tuple, a list of written items -/
def tTup (t : TA) : TE := fun σ H Q => t σ H fun xs H1 => xs.length ≤ sizeLine ∧ ∀ p, H1 p = none → Q (.ref p) (upd H1 p (.tup xs))
def tLst (t : TA) : TE := fun σ H Q => t σ H fun xs H1 => xs.length ≤ sizeLine ∧ ∀ p, H1 p = none → Q (.ref p) (upd H1 p (.lst xs))
theorem pe_tup {x1} (h : PA X es t) : PE X (.Tuple es x1 pos) (tTup t) := by
  intro pins s σ H Q I hq
  refine wpAny_Tuple_spliced (thn (h pos pins s σ H _ I hq) fun us s1 ⟨xs, H1, I1, r, z, q⟩ => ⟨by rw [← r.length]; exact z, ?_⟩)
  have hf : H1 s1.heap.objs.size = none := I1.hok.fresh (Nat.le_refl _)
  refine ⟨.ref s1.heap.objs.size, upd H1 s1.heap.objs.size (.tup xs), I1.laid (t' := s1.toks) (fun b u e => Heap.get?_push_of_some _ e) (Nat.le_refl _) ?_, rfl, q _ hf⟩
  exact ⟨z, us, r, ⟨_, Heap.get?_push_size _ rfl, rfl, _, rfl⟩⟩
theorem pe_lst (h : PA X es t) : PE X (.List es pos) (tLst t) := by
  intro pins s σ H Q I hq
  refine wpAny_List_spliced (thn (h pos pins s σ H _ I hq) fun us s1 ⟨xs, H1, I1, r, z, q⟩ => ⟨by rw [← r.length]; exact z, ?_⟩)
  have hf : H1 s1.heap.objs.size = none := I1.hok.fresh (Nat.le_refl _)
  refine ⟨.ref s1.heap.objs.size, upd H1 s1.heap.objs.size (.lst xs), I1.laid (t' := s1.toks) (fun b u e => Heap.get?_push_of_some _ e) (Nat.le_refl _) ?_, rfl, q _ hf⟩
  exact ⟨z, us, 0, r, Heap.get?_push_size _ rfl⟩
end

/-! ### what a def promises -/
/-- a def's promise: the bound arguments in the parameters' order, the heap, the wanted end, the wanted exception -/
abbrev Sp := List V → Hp → VK → XK → Prop
/-- how an exception lies behind a call (file 08 gives it): the callers' frames, abstract heap and state ahead of the call, the wish, the exception, the state -/
abbrev CXT := List Env → Hp → Shared → XK → Value → Shared → Prop

/-- the state at a call -/
structure Env0 (P : Program) (w : World) (K : PySem.W.Frag) (mg : Str → Option Value) (base : Heap) (A : Around) (outer : List Env) (s : Shared) (H : Hp) : Prop where
  frames : A.frames = some outer
  mod : Mod K mg base
  bs : ∀ b o, base.get? b = some o → s.heap.get? b = some o ∧ H b = none
  bsz : base.objs.size ≤ s.heap.objs.size
  funs : s.heap.FunFrames base outer
  frf : ∀ b ∈ frs outer, H b = none
  hok : HOk P w H s.heap
  bare : AllBare s.gens
/-- a call's end -/
def CE (outer : List Env) (P : Program) (w : World) (H : Hp) (s : Shared) (Q : VK) (u : Value) (s' : Shared) : Prop :=
  ∃ v H', s'.os = s.os ∧ AllBare s'.gens ∧ Un (frs outer) [] H H' s.heap s'.heap ∧ HOk P w H' s'.heap ∧ RelV v u ∧ Q v H'
def CR (CX : CXT) (outer : List Env) (P : Program) (w : World) (H : Hp) (s : Shared) (Q : VK) (E : XK) (r : Result) (s' : Shared) : Prop :=
  match r with
  | .ok (.ret u) => CE outer P w H s Q u s'
  | .ok _ => False
  | .error e => CX outer H s E e s'
structure FnOk (P : Program) (w : World) (K : PySem.W.Frag) (mg : Str → Option Value) (base : Heap) (CX : CXT) (k : Nat) (f : Addr) (fd : FuncData) (ps : List Str) (sp : Sp) : Prop where
  len : ∀ vs H Q E, sp vs H Q E → vs.length = ps.length
  run : ∀ (A : Around) (outer : List Env) (s : Shared) (H : Hp) (args : Args) (us : List Value) (vs : List V) (Q : VK) (E : XK), Room k A → Env0 P w K mg base A outer s H → BindsTo s fd args (ps.zip us) → Vals vs us → sp vs H Q E →
    codeAny (model P w) A (.call (.ref f) args) (CR CX outer P w H s Q E) s
theorem FnOk.mono {P : Program} {w : World} {K : PySem.W.Frag} {mg : Str → Option Value} {base : Heap} {CX : CXT} {j k : Nat} {f : Addr} {fd : FuncData} {ps : List Str} {sp : Sp} (F : FnOk P w K mg base CX j f fd ps sp) (h : j ≤ k) :
    FnOk P w K mg base CX k f fd ps sp := ⟨F.len, fun A outer s H args us vs Q E hr => F.run A outer s H args us vs Q E (hr.mono h)⟩
/-- a weaker promise -/
theorem FnOk.imp {P : Program} {w : World} {K : PySem.W.Frag} {mg : Str → Option Value} {base : Heap} {CX : CXT} {k : Nat} {f : Addr} {fd : FuncData} {ps : List Str} {sp sp' : Sp} (F : FnOk P w K mg base CX k f fd ps sp)
    (h : ∀ vs H Q E, sp' vs H Q E → sp vs H Q E) : FnOk P w K mg base CX k f fd ps sp' :=
  ⟨fun vs H Q E q => F.len vs H Q E (h _ _ _ _ q), fun A outer s H args us vs Q E hr he hb hv hs => F.run A outer s H args us vs Q E hr he hb hv (h _ _ _ _ hs)⟩


section
variable {X : Cx} {pins : List (Addr × Obj)} {σ : St} {H : Hp} {s s' : Shared}
/-- from a body: what a callee wants -/
theorem Inv.env0 (I : Inv X pins σ H s) : Env0 X.prog X.w X.K X.mg X.base X.A X.stack s H :=
  ⟨I.ok.frames, I.ok.mod, I.bs, Nat.le_trans I.ok.bsz I.sz, I.stack, I.stkFree, I.hok, I.bare⟩
/-- behind a call -/
theorem Inv.after {Q : VK} {u : Value} (I : Inv X pins σ H s) (h : CE X.stack X.prog X.w H s Q u s') : EP X pins σ Q u s' := by
  obtain ⟨v, H', os, bare, un, hok, r, q⟩ := h
  obtain ⟨hh, g, d, t, os'⟩ := s'
  obtain rfl : os' = s.os := os
  exact ⟨v, H', I.call (h' := hh) (g' := g) (d' := d) (t' := t) (ch := []) un hok bare (fun b z => absurd z (by simp)), r, q⟩
end

/-! ### calls -/
/-- f(..): the written arguments, then the defaults dvs; E: what is wanted of an exception -/
def tCall (sp : Sp) (dvs : List V) (E : XK) (t : TA) : TE := fun σ H Q => t σ H fun vs H1 => sp (vs ++ dvs) H1 Q E

/-- how the parameters are bound: us the positional arguments, kw the keywords' values by name, ds the defaults that fill up -/
def Binds (K : PySem.W.Frag) (fd : FuncData) (ps : List Str) (ds : List Value) : Prop :=
  ∀ (s : Shared) (us : List Value), K.In s.heap → (us ++ ds).length = ps.length → BindsTo s fd ⟨us, []⟩ (ps.zip (us ++ ds))
/-- every parameter is given -/
theorem Binds.all {K : PySem.W.Frag} {fd : FuncData} {ps : List Str} (h : ∀ us : List Value, us.length = ps.length → bindArgs fd ⟨us, []⟩ = pure (ps.zip us)) : Binds K fd ps [] := fun s us _ hl => by
  rw [List.append_nil] at hl ⊢
  exact .of_eq (h us hl)

/-- an exception of a callee reaches what this body wants of exceptions -/
def Passes (CX : CXT) (X : Cx) (E : XK) : Prop := ∀ (pins : List (Addr × Obj)) (σ : St) (H : Hp) (s : Shared) (e : Value) (s' : Shared), Inv X pins σ H s → CX X.stack H s E e s' → X.xe e s'

section
variable {X : Cx} {CX : CXT} {k : Nat} {f C : Addr} {fd : FuncData} {ps : List Str} {sp : Sp} {dvs : List V} {ds : List Value} {E : XK} {x m : Str} {p pos apos : Pos} {e o : Expr} {es : List Expr} {ta : TE} {t : TA}

/-- the callee runs -/
theorem run_fn {pins : List (Addr × Obj)} {σ : St} {H : Hp} {s : Shared} {Q : VK} {us : List Value} {vs : List V} (F : FnOk X.prog X.w X.K X.mg X.base CX k f fd ps sp) (hr : Room k X.A) (hb : Binds X.K fd ps ds) (hd : Vals dvs ds) (hx : Passes CX X E)
    (I : Inv X pins σ H s) (r : Vals vs us) (h : sp (vs ++ dvs) H Q E) : wpAny (model X.prog X.w) X.A (call (.ref f) us) (EP X pins σ Q) X.xe s := by
  have r2 : Vals (vs ++ dvs) (us ++ ds) := r.append hd
  have hl : (us ++ ds).length = ps.length := by rw [← r2.length]; exact F.len _ _ _ _ h
  refine wpAny_call (codeAny_mono (F.run X.A X.stack s H ⟨us, []⟩ (us ++ ds) (vs ++ dvs) Q E hr I.env0 (hb s us I.kIn hl) r2 h) fun r s' hq => ?_)
  cases r with
  | error e => exact hx pins σ H s e s' I hq
  | ok fl =>
    cases fl with
    | ret u => exact I.after hq
    | next => exact False.elim hq
    | brk => exact False.elim hq
    | cont => exact False.elim hq

theorem pe_call (F : FnOk X.prog X.w X.K X.mg X.base CX k f fd ps sp) (hr : Room k X.A) (hg : Gl X x) (hm : X.mg x = some (.ref f)) (hk : PySem.W.keepIn X.K (.ref f) = true) (hb : Binds X.K fd ps ds) (hd : Vals dvs ds) (hx : Passes CX X E)
    (ha : PA X (e :: es) t) (hdb : (x == ("__debug__" : Str)) = false := by decide) (he : starEach (e :: es) X.env = (false, eval e X.env) :: starEach es X.env := by rfl) (hpl : (backTo pos (starEach es X.env)).any (·.1) = false := by rfl) :
    PE X (.Call (.Name x p) (e :: es) [] pos) (tCall sp dvs E t) := by
  intro pins s σ H Q I h
  refine wpAny_Call_Name_kw (ld_glob I hg hm ?_ hdb)
  refine PySem.W.callWith_K (h₀ := X.base) I.ok.mod.kin hk (thn (ha pos pins s σ H _ I h) fun us s1 ⟨vs, H1, I1, r, q⟩ => ⟨I1.kIn, ?_⟩) he hpl
  exact run_fn F hr hb hd hx I1 r q



end

/-! ### keywords -/
section
variable {X : Cx} {CX : CXT} {k : Nat} {f C : Addr} {fd : FuncData} {ps ks : List Str} {sp : Sp} {E : XK} {x m : Str} {p pos apos kpos : Pos} {e o : Expr} {es : List Expr} {kws : List Keyword} {te ta : TE} {t tk : TA} {nm : Option Str}

variable {g : List Value → List Value → List Value} {gV : List V → List V → List V}
end

/-! ### a def's body keeps its promise -/
/-- names: the parameters first -/
structure FnScope (N P : List Str) (sc : Scope) : Prop where
  kind : sc.kind = .function
  co : sc.isCoroutine = false
  gen : sc.isGenerator = false
  nd : N.Nodup
  pre : N.take P.length = P
  par : ∀ x ∈ P, sc.names.lookup x = some .local ∨ sc.names.lookup x = some .cell
  nofree : ∀ y ∈ sc.names, y.2 ≠ .free

theorem bindL_out {kindOf : Str → Option NameKind} {x : Str} : ∀ {binds : List (Str × Value)} {m : Str → Option Value}, (∀ v, (x, v) ∉ binds) → bindL kindOf binds m x = m x
  | [], _, _ => rfl
  | (n, v) :: r, m, h => by
    unfold bindL
    rw [bindL_out fun w hw => h w (List.mem_cons_of_mem _ hw)]
    split
    · have : x ≠ n := by rintro rfl; exact h v List.mem_cons_self
      simp [this]
    · rfl
theorem bindC_out {kindOf : Str → Option NameKind} {x : Str} : ∀ {binds : List (Str × Value)} {m : Str → Option Value}, (∀ v, (x, v) ∉ binds) → bindC kindOf binds m x = m x
  | [], _, _ => rfl
  | (n, v) :: r, m, h => by
    unfold bindC
    rw [bindC_out fun w hw => h w (List.mem_cons_of_mem _ hw)]
    split
    · rfl
    · have : x ≠ n := by rintro rfl; exact h v List.mem_cons_self
      simp [this]
theorem bindL_get {kindOf : Str → Option NameKind} {x : Str} {v : Value} : ∀ {P : List Str} {vs : List Value} {i : Nat} {m : Str → Option Value}, P.Nodup → P[i]? = some x → vs[i]? = some v → kindOf x = some .local →
    bindL kindOf (P.zip vs) m x = some v
  | [], _, _, _, _, h, _, _ => by simp at h
  | _ :: _, [], _, _, _, _, h, _ => by simp at h
  | p :: P, w :: vs, 0, m, nd, h1, h2, hk => by
    simp at h1 h2; subst h1; subst h2
    show bindL kindOf ((p, w) :: P.zip vs) m p = _
    unfold bindL
    rw [bindL_out fun v hv => (List.nodup_cons.mp nd).1 (List.of_mem_zip hv).1, if_pos hk]
    simp
  | p :: P, w :: vs, i + 1, m, nd, h1, h2, hk => by
    show bindL kindOf ((p, w) :: P.zip vs) m x = _
    unfold bindL
    exact bindL_get (i := i) (List.nodup_cons.mp nd).2 (by simpa using h1) (by simpa using h2) hk
theorem bindC_get {kindOf : Str → Option NameKind} {x : Str} {v : Value} : ∀ {P : List Str} {vs : List Value} {i : Nat} {m : Str → Option Value}, P.Nodup → P[i]? = some x → vs[i]? = some v → kindOf x ≠ some .local →
    bindC kindOf (P.zip vs) m x = some v
  | [], _, _, _, _, h, _, _ => by simp at h
  | _ :: _, [], _, _, _, _, h, _ => by simp at h
  | p :: P, w :: vs, 0, m, nd, h1, h2, hk => by
    simp at h1 h2; subst h1; subst h2
    show bindC kindOf ((p, w) :: P.zip vs) m p = _
    unfold bindC
    rw [bindC_out fun v hv => (List.nodup_cons.mp nd).1 (List.of_mem_zip hv).1, if_neg hk]
    simp
  | p :: P, w :: vs, i + 1, m, nd, h1, h2, hk => by
    show bindC kindOf ((p, w) :: P.zip vs) m x = _
    unfold bindC
    exact bindC_get (i := i) (List.nodup_cons.mp nd).2 (by simpa using h1) (by simpa using h2) hk

/-- the names' values at the entry -/
def start (N : List Str) (vs : List V) : St := vs.map some ++ List.replicate (N.length - vs.length) none

/-- the context of a def's body, at its entry; an exception leaves the frame, then lies as CX says -/
def cxOf (CX : CXT) (P : Program) (w : World) (K : PySem.W.Frag) (mg : Str → Option Value) (base : Heap) (N : List Str) (qual : Str) (scope : Scope) (f : Addr) (cd : Value) (A : Around) (outer : List Env) (s : Shared) (H : Hp) (E : XK) : Cx where
  prog := P
  w := w
  K := K
  mg := mg
  base := base
  A := A.deeper (envOfC qual scope s.heap.objs.size f cd)
  N := N
  s₀ := s
  H₀ := H
  env := envOfC qual scope s.heap.objs.size f cd
  outer := outer
  stack := envOfC qual scope s.heap.objs.size f cd :: outer
  ex := []
  calm := true
  fn := fun _ => true
  pn := []
  xe := fun e s' => wpAny (model P w) (A.deeper (envOfC qual scope s.heap.objs.size f cd)) (leaving (envOfC qual scope s.heap.objs.size f cd) e) (fun _ s'' => CX outer H s E e s'') (fun e' s'' => CX outer H s E e' s'') s'

theorem cell_has {sc : Scope} {n : Nat} {x : Str} (h : sc.names.lookup x = some .cell) : ∃ c, (cellsFrom n sc.names []).lookup x = some c := by
  have q := PySem.W.cellsFrom_some sc.names n [] (.inl h)
  exact Option.isSome_iff_exists.mp q

theorem inv_start {CX : CXT} {P : Program} {w : World} {K : PySem.W.Frag} {mg : Str → Option Value} {base : Heap} {N ps : List Str} {qual : Str} {scope : Scope} {f : Addr} {cd : Value} {A : Around} {outer : List Env} {s s1 : Shared} {H : Hp} {E : XK} {us : List Value} {vs : List V}
    (S : FnScope N ps scope) (hd : A.handled = none) (e0 : Env0 P w K mg base A outer s H) (hl : vs.length = ps.length) (r : Vals vs us)
    (x : InCallC s s.heap.objs.size (bindL (envOfC qual scope s.heap.objs.size f cd).kindOf (ps.zip us) fun _ => none) (cellsFrom (s.heap.objs.size + 1) scope.names []) (bindC (envOfC qual scope s.heap.objs.size f cd).kindOf (ps.zip us) fun _ => none) s1) :
    Inv (cxOf CX P w K mg base N qual scope f cd A outer s H E) [] (start N vs) H s1 := by
  have hpl : ps.length ≤ N.length := by have := congrArg List.length S.pre; rw [List.length_take] at this; omega
  obtain ⟨h1, tk, rfl, hk⟩ := x.done
  have noA : ∀ b : Addr, b ∉ (cxOf CX P w K mg base N qual scope f cd A outer s H E).ex := fun b z => absurd (show b ∈ ([] : List Addr) from z) (by simp)
  refine ⟨⟨e0.mod, S.kind, rfl, rfl, Nat.le_refl _, fun y z c h1 h2 => ?_, fun y hy => ?_, fun y c _ h => ?_, fun _ => hd, Around.frames_deeper e0.frames, .inr ⟨rfl, rfl⟩, fun b z => absurd z (noA b), e0.bs, e0.bsz, fun b _ _ => noA b, fun b z => absurd z (noA b), e0.funs, e0.frf⟩,
    rfl, e0.bare, Un.kept hk, ⟨_, x.toInCall.ns, fun i y v h1 h2 h3 => ?_⟩, fun y c h => ⟨_, x.cell y c h⟩, e0.hok.fresh (Nat.le_refl _), fun y c h => ?_, fun p hp => absurd (show p ∈ ([] : List (Addr × Obj)) from hp) (by simp), e0.hok.kept hk, ?_⟩
  · exact name_of_addr x.apart (PySem.mem_of_lookup h1) (PySem.mem_of_lookup h2)
  · have hy : scope.names.lookup y = some .cell ∨ scope.names.lookup y = some .free := hy
    rcases hy with hy | hy
    · exact cell_has hy
    · exact absurd rfl (S.nofree _ (PySem.mem_of_lookup hy))
  · exact Nat.le_of_lt (x.above y c (PySem.mem_of_lookup h))
  · have hi : i < vs.length := by
      unfold start at h2
      by_cases hi : i < vs.length
      · exact hi
      · rw [List.getElem?_append_right (by simpa using hi)] at h2
        rw [List.getElem?_replicate] at h2
        split at h2 <;> cases h2
    have ha : vs[i]? = some v := by
      unfold start at h2
      rw [List.getElem?_append_left (by simpa using hi), List.getElem?_map] at h2
      cases e : vs[i]? with
      | none => rw [e] at h2; cases h2
      | some a => rw [e] at h2; cases h2; rfl
    obtain ⟨u, hu, rv⟩ := r.get ha
    have hp : ps[i]? = some y := by
      rw [← S.pre, List.getElem?_take_of_lt (by omega)]; exact h1
    have ndP : ps.Nodup := by rw [← S.pre]; exact S.nd.sublist (List.take_sublist _ _)
    refine ⟨u, rv, ?_⟩
    rcases S.par y (List.mem_of_getElem? hp) with k | k
    · exact .inl ⟨k, bindL_get ndP hp hu k⟩
    · obtain ⟨c, e⟩ := cell_has (n := s.heap.objs.size + 1) k
      refine .inr ⟨.inl k, c, e, ?_⟩
      have q := x.cell y c e
      rw [bindC_get ndP hp hu (by show scope.names.lookup y ≠ _; rw [k]; decide)] at q
      exact q
  · exact e0.hok.fresh (Nat.le_of_lt (x.above y c (PySem.mem_of_lookup h)))
  · unfold start
    show _ = N.length
    rw [List.length_append, List.length_map, List.length_replicate]
    omega

/-- THE RULE: a def (or a method) of the text, by its body. The body's reading t is chosen for each entry; it is run at the parameters' values -/
theorem fn_of {CX : CXT} {P : Program} {w : World} {K : PySem.W.Frag} {mg : Str → Option Value} {base : Heap} {k : Nat} {f : Addr} {name qual : Str} {params : Arguments} {body : List Stmt} {scope : Scope} {dV kV doc pm cdv ct oc : Value} {an od : Option Addr}
    {osl : Array (Option Value)} {N ps : List Str} {sp : Sp} (lk : K.lookup f = some ⟨oc, od, .func (PySem.W.fnOf name qual params body scope dV kV doc pm an cdv ct), osl⟩) (hcd : PySem.W.codeIn K cdv qual = true) (S : FnScope N ps scope)
    (len : ∀ vs H Q E, sp vs H Q E → vs.length = ps.length)
    (hbody : ∀ (A : Around) (outer : List Env) (s : Shared) (H : Hp) (vs : List V) (Q : VK) (E : XK), Room k (A.deeper (envOfC qual scope s.heap.objs.size f cdv)) → sp vs H Q E →
      ∃ t, PSs (cxOf CX P w K mg base N qual scope f cdv A outer s H E) body t ∧ t { nx := fun _ H' => Q .non H', rt := Q } (start N vs) H) :
    FnOk P w K mg base CX (k + 1) f (PySem.W.fnOf name qual params body scope dV kV doc pm an cdv ct) ps sp := by
  refine ⟨len, fun A outer s H args us vs Q E hr e0 hb r hsp => ?_⟩
  have hl := len _ _ _ _ hsp
  have KX : K.In s.heap := e0.mod.kin.keeps fun b o e => (e0.bs b o e).1
  have lim : s.heap.NoLimit := e0.mod.nolimit.keeps fun b o e => (e0.bs b o e).1
  have hkind : ∀ y ∈ ps.zip us, scope.names.lookup y.1 = some .local ∨ (scope.names.lookup y.1 = some .cell ∧ ((cellsFrom (s.heap.objs.size + 1) scope.names []).lookup y.1).isSome = true) := fun ⟨n, v⟩ hy => by
    rcases S.par n (List.of_mem_zip hy).1 with q | q
    · exact .inl q
    · exact .inr ⟨q, PySem.W.cellsFrom_some _ _ _ (.inl q)⟩
  refine codeAny_call_function hr.depth (KX _ _ lk) rfl S.co S.gen rfl (PySem.W.codeRec_of KX hcd) (hb _ _ _ _ ?_)
  refine wpAny_newFunctionEnv_cells S.kind hkind fun env he s1 x => ?_
  subst he
  refine ⟨lim.keeps x.toInCall.keep, codeAny_func ?_⟩
  obtain ⟨t, ht, hq⟩ := hbody A outer s H vs Q E (hr.deeper _) hsp
  have I : Inv (cxOf CX P w K mg base N qual scope f cdv A outer s H E) [] (start N vs) H s1 := inv_start S hr.hd e0 hl r x
  refine wpAny_mono (ht [] s1 (start N vs) H _ I hq) (fun fl s' hs => ?_) fun e s' hs => hs
  have fin : ∀ {σ' : St} {H' : Hp} {v : V} {u : Value}, Inv (cxOf CX P w K mg base N qual scope f cdv A outer s H E) [] σ' H' s' → RelV v u → Q v H' → CE outer P w H s Q u s' :=
    fun {σ' H' v u} J rv q => ⟨v, H', J.os, J.bare, J.base, J.hok, rv, q⟩
  cases fl with
  | ret u =>
    obtain ⟨v, σ', H', J, rv, q⟩ := hs
    exact fin J rv q
  | next =>
    obtain ⟨σ', H', J, q⟩ := hs
    exact fin (v := V.non) (u := Value.none) J rfl q
  | brk =>
    obtain ⟨_, _, _, q⟩ := hs
    exact False.elim q
  | cont =>
    obtain ⟨_, _, _, q⟩ := hs
    exact False.elim q
end L2

namespace L2
open PySem PySem.Spec PyProof.Rows
section
variable {X : Cx} {x : Str} {p pos : Pos} {e : Expr} {es : List Expr} {t : TA} {id T : String} {r : List V → Hp → VK → Prop}

def tCB (r : List V → Hp → VK → Prop) (t : TA) : TE := fun σ H Q => t σ H fun vs H1 => r vs H1 Q
/-- f(e, ..), f a built-in function -/
theorem pe_callB (hc : CallR X (.builtin id) r) (hg : Gl X x) (hm : X.mg x = none) (hv : bootBuiltins x = some (.builtin id)) (ha : PA X (e :: es) t) (hn : x ≠ "__name__" := by decide) (hdb : (x == ("__debug__" : Str)) = false := by decide)
    (he : starEach (e :: es) X.env = (false, eval e X.env) :: starEach es X.env := by rfl) (hpl : (backTo pos (starEach es X.env)).any (·.1) = false := by rfl) : PE X (.Call (.Name x p) (e :: es) [] pos) (tCB r t) := by
  intro pins s σ H Q I h
  refine wpAny_Call_Name_kw (ld_blt I hg hm hv ?_ hn hdb)
  exact PyProof.Rows.callWith_builtin1 (thn (ha pos pins s σ H _ I h) fun us s1 ⟨vs, H1, I1, r1, q1⟩ => hc pins s1 σ H1 vs us Q I1 r1 q1) he hpl
/-- T(e, ..), T a built-in type -/
theorem pe_callTy (hc : CallR X (.type T) r) (hg : Gl X x) (hm : X.mg x = none) (hv : bootBuiltins x = some (.type T)) (ha : PA X (e :: es) t) (hn : x ≠ "__name__" := by decide) (hdb : (x == ("__debug__" : Str)) = false := by decide)
    (he : starEach (e :: es) X.env = (false, eval e X.env) :: starEach es X.env := by rfl) (hpl : (backTo pos (starEach es X.env)).any (·.1) = false := by rfl) : PE X (.Call (.Name x p) (e :: es) [] pos) (tCB r t) := by
  intro pins s σ H Q I h
  refine wpAny_Call_Name_kw (ld_blt I hg hm hv ?_ hn hdb)
  exact PyProof.Rows.callWith_type1 (thn (ha pos pins s σ H _ I h) fun us s1 ⟨vs, H1, I1, r1, q1⟩ => hc pins s1 σ H1 vs us Q I1 r1 q1) he hpl
end
end L2

namespace HT
open PySem PyProof.Rows



section
open PySem.SeqAt
open PySem.AutoSeq1 (wpAny_loadPart')
open PySem.MeetsSeq PySem.MeetsSeq2 PySem.MeetsSeq3

end

section
variable {prog : Program} {w : World} {A : Around} {E : Value → Shared → Prop} {s : Shared}



/-! ### t[a:b], not the whole -/
/-- a slice's bound as a place among n (d where it is left out) -/
def sIx (n d : Nat) : Option Int → Nat
  | none => d
  | some v => if v < 0 then (v + (n : Int)).toNat else min v.toNat n
theorem sIx_le (n d : Nat) (hd : d ≤ n) (o : Option Int) : sIx n d o ≤ n := by
  cases o with
  | none => exact hd
  | some v =>
    show (if v < 0 then (v + (n : Int)).toNat else min v.toNat n) ≤ n
    by_cases hv : v < 0
    · rw [if_pos hv]; omega
    · rw [if_neg hv]; exact Nat.min_le_right _ _
theorem clip_eq (v : Int) (n d : Nat) : (if v < 0 then max (v + (n : Int)) 0 else min v (n : Int)) = ((sIx n d (some v) : Nat) : Int) := by
  show (if v < 0 then max (v + (n : Int)) 0 else min v (n : Int)) = (((if v < 0 then (v + (n : Int)).toNat else min v.toNat n) : Nat) : Int)
  by_cases hv : v < 0
  · simp only [if_pos hv]; omega
  · simp only [if_neg hv]; omega
theorem adjust_gen (lo hi : Option Int) (n : Nat) : Builtin.Slice.sliceAdjust lo hi 1 (n : Int) = (((sIx n 0 lo : Nat) : Int), ((sIx n n hi : Nat) : Int)) := by
  have h1 : ¬ ((1 : Int) < 0) := by omega
  unfold Builtin.Slice.sliceAdjust
  simp only [h1, if_false]
  refine Prod.ext ?_ ?_
  · cases lo with
    | none => rfl
    | some v => exact clip_eq v n 0
  · cases hi with
    | none => rfl
    | some v => exact clip_eq v n n
theorem places_gen (i j : Nat) : Builtin.Slice.slicePlaces (i : Int) (j : Int) 1 = j - i := by
  unfold Builtin.Slice.slicePlaces
  have h1 : (1 : Int) > 0 := by omega
  simp only [h1, if_true, Int.ediv_one]
  split <;> omega
theorem slicePart_ {v : Value} {o : Option Int} {Q : Option Int → Shared → Prop} (p : IsPart v o) (h : Q o s) : wpAny (model prog w) A (Builtin.Slice.slicePartIndex v) Q E s := by
  cases p with
  | none => exact slicePart_none h
  | int i t => exact slicePart_int h
theorem sliceApplied_gen {sl : Addr} {vl vu : Value} {lo hi : Option Int} {n : Nat} {Q : Int × Int × Nat → Shared → Prop} (hs : s.heap.IsSliceOf sl vl vu .none) (pl : IsPart vl lo) (pu : IsPart vu hi)
    (h : Q (((sIx n 0 lo : Nat) : Int), 1, sIx n n hi - sIx n 0 lo) s) : wpAny (model prog w) A (Builtin.Slice.sliceApplied (.ref sl) (pure (n : Int))) Q E s := by
  obtain ⟨os, hos, hcs, hds⟩ := id hs
  unfold Builtin.Slice.sliceApplied Builtin.Slice.sliceFields
  refine wpAny_bind (wpAny_bind (wpAny_field hos hds (x := vl) rfl (wpAny_bind (wpAny_field hos hds (x := vu) rfl (wpAny_bind (wpAny_field hos hds (x := .none) rfl (wpAny_pure ?_)))))))
  refine wpAny_bind (slicePart_none ?_)
  show wpAny _ _ (if ((1 : Int) == 0) = true then _ else _) _ _ s
  rw [if_neg (by decide)]
  refine wpAny_bind (slicePart_ pl (wpAny_bind (slicePart_ pu (wpAny_bind (wpAny_pure ?_)))))
  show wpAny _ _ (match Builtin.Slice.sliceAdjust lo hi 1 (n : Int) with | (lo, hi) => pure (lo, (1 : Int), Builtin.Slice.slicePlaces lo hi 1)) _ _ s
  rw [adjust_gen lo hi n]
  show wpAny _ _ (pure (((sIx n 0 lo : Nat) : Int), (1 : Int), Builtin.Slice.slicePlaces ((sIx n 0 lo : Nat) : Int) ((sIx n n hi : Nat) : Int) 1)) _ _ s
  rw [places_gen]
  exact wpAny_pure h
theorem pick_gen (xs : Array Value) (i k : Nat) : ((List.range k).filterMap fun (m : Nat) => xs[((i : Int) + (m : Int) * 1).toNat]?).toArray = ((xs.toList.drop i).take k).toArray := by
  have e : (fun (m : Nat) => xs[((i : Int) + (m : Int) * 1).toNat]?) = fun m => xs[i + m]? := by
    funext m
    have : ((i : Int) + (m : Int) * 1).toNat = i + m := by omega
    rw [this]
  rw [e]
  have := pick_run xs i k
  rw [List.filterMap_map] at this
  have e2 : ((fun x => xs[x]?) ∘ fun x => i + x) = fun m => xs[i + m]? := rfl
  rw [e2] at this
  rw [this]

theorem getItem_tuple_cut {t sl : Addr} {items : Array Value} {vl vu : Value} {lo hi : Option Int} {Q : Value → Shared → Prop} (ht : IsTup s.heap t items) (hs : s.heap.IsSliceOf sl vl vu .none) (pl : IsPart vl lo) (pu : IsPart vu hi)
    (hw : ¬ (sIx items.size 0 lo = 0 ∧ sIx items.size items.size hi = items.size))
    (h : Q (.ref s.heap.objs.size) { s with heap := s.heap.push { cls := .type "tuple", data := .seq ((items.toList.drop (sIx items.size 0 lo)).take (sIx items.size items.size hi - sIx items.size 0 lo)).toArray } })
    (hsz : items.size ≤ sizeLine) : wpAny (model prog w) A (getItem (.ref t) (.ref sl)) Q E s := by
  have htake : sizeOk (.seq ((items.toList.drop (sIx items.size 0 lo)).take (sIx items.size items.size hi - sIx items.size 0 lo)).toArray) := by
    show ((items.toList.drop (sIx items.size 0 lo)).take (sIx items.size items.size hi - sIx items.size 0 lo)).toArray.size ≤ sizeLine
    rw [List.size_toArray, List.length_take, List.length_drop, Array.length_toList]
    omega
  have hj : sIx items.size items.size hi ≤ items.size := sIx_le _ _ (Nat.le_refl _) hi
  obtain ⟨os, hos, hcs, hds⟩ := id hs
  have hTs : s.TypeIs (.ref sl) "slice" := ⟨os, hos, hcs⟩
  unfold getItem
  try with_reducible refine wpAny_holding ?_
  first | refine wpAny_bind (wpAny_pure ?_) | skip
  refine wpAny_bind (wpAny_sequenceKey ht.typeIs (by decide) ?_)
  refine wpAny_bind (wpAny_callSpecial?_slot (name := Str.ofString "__getitem__") ht.typeIs PyProof.Rows.slot_tuple_getitem
    (wpAny_call_entry PyProof.Rows.slot_tuple_getitem ht.typeIs entry_tuple_getitem ?_ (args_tuple_getitem _ _)))
  show wpAny _ _ (Builtin.Tuple.tupleItemsOf (.ref t) >>= _) _ _ s
  refine wpAny_bind (tupleItemsOf_ ht ?_)
  refine wpAny_bind (wpAny_typeOf hTs ?_)
  rw [if_pos (by decide)]
  refine wpAny_bind (sliceApplied_gen hs pl pu ?_)
  have hno : ¬ ((((sIx items.size 0 lo : Nat) : Int) == 0 && (1 : Int) == 1 && (sIx items.size items.size hi - sIx items.size 0 lo) == items.size) = true) := by
    intro q
    rw [Bool.and_eq_true, Bool.and_eq_true] at q
    have q1 : ((sIx items.size 0 lo : Nat) : Int) = 0 := eq_of_beq q.1.1
    have q2 : sIx items.size items.size hi - sIx items.size 0 lo = items.size := eq_of_beq q.2
    exact hw ⟨by omega, by omega⟩
  show wpAny _ _ (if (((sIx items.size 0 lo : Nat) : Int) == 0 && (1 : Int) == 1 && (sIx items.size items.size hi - sIx items.size 0 lo) == items.size) = true then _ else _) _ _ s
  rw [if_neg hno, pick_gen]
  first
    | exact wpAny_bind (m := Builtin.Tuple.tupleExact _) (wpAny_newObj_type (wpAny_pure ⟨_, rfl, wpAny_pure h⟩) htake)
    | exact wpAny_bind (m := Builtin.Tuple.tupleExact _) (wpAny_newObj_type (wpAny_bind (wpAny_pure (wpAny_pure ⟨_, rfl, wpAny_pure h⟩))) htake)
    | exact wpAny_bind (wpAny_bind (m := Builtin.Tuple.tupleExact _) (wpAny_newObj_type (wpAny_pure (wpAny_pure ⟨_, rfl, wpAny_pure h⟩)) htake))
    | exact wpAny_bind (wpAny_bind (m := Builtin.Tuple.tupleExact _) (wpAny_newObj_type (wpAny_pure ⟨_, rfl, wpAny_pure h⟩) htake))
end
end HT

namespace L2
open PySem PySem.Spec PyProof.Rows

/-! ### the parts of a slice -/
abbrev TO := St → Hp → (Option Int → Hp → Prop) → Prop
/-- a slice's part (left out, or an int) -/
def PO (X : Cx) (e : Option Expr) (t : TO) : Prop :=
  ∀ (pins : List (Addr × Obj)) (s : Shared) (σ : St) (H : Hp) (Q : Option Int → Hp → Prop), Inv X pins σ H s → t σ H Q →
    wpAny (model X.prog X.w) X.A (evalPart e X.env) (fun u s' => ∃ o H', Inv X pins σ H' s' ∧ IsPart u o ∧ Q o H') X.xe s
def tNoPart : TO := fun _ H Q => Q none H
def tPart (t : TE) : TO := fun σ H Q => t σ H fun x H1 => ∃ i, x = .int i ∧ Q (some i) H1


section
variable {X : Cx} {e : Expr} {te : TE} {lo hi : Option Expr} {tl th : TO} {pos p2 : Pos}

theorem po_none : PO X none tNoPart := by
  intro pins s σ H Q I h
  rw [evalPart_none]
  exact wpAny_pure ⟨none, H, I, .none, h⟩
theorem po_some (h : PE X e te) : PO X (some e) (tPart te) := by
  intro pins s σ H Q I hw
  rw [evalPart_some]
  refine thn (h pins s σ H _ I hw) fun u s1 ⟨x, H1, I1, r1, q1⟩ => ?_
  obtain ⟨i, rfl, q⟩ := q1
  obtain ⟨t, rfl⟩ := r1
  exact ⟨some i, H1, I1, .int i t, q⟩

/-- what a slice of a value is, by values: the slice object stands at sl -/
def SlR (X : Cx) (r : V → Option Int → Option Int → Hp → VK → Prop) : Prop :=
  ∀ (pins : List (Addr × Obj)) (s : Shared) (σ : St) (H : Hp) (x : V) (v vl vu : Value) (lo hi : Option Int) (sl : Addr) (Q : VK), Inv X pins σ H s → RelV x v → s.heap.IsSliceOf sl vl vu .none → IsPart vl lo → IsPart vu hi → r x lo hi H Q →
    ∃ T id, typeLookup (.type T) "__getitem__" = pure (some (.builtin id)) ∧ s.TypeIs v T ∧ wpAny (model X.prog X.w) X.A (getItem v (.ref sl)) (EP X pins σ Q) X.xe s
def tSl (r : V → Option Int → Option Int → Hp → VK → Prop) (te : TE) (tl th : TO) : TE := fun σ H Q => te σ H fun x H1 => tl σ H1 fun l H2 => th σ H2 fun u H3 => r x l u H3 Q
/-- a[lo:hi], any a -/
theorem pe_slice {r : V → Option Int → Option Int → Hp → VK → Prop} (hr : SlR X r) (he : PE X e te) (hl : PO X lo tl) (hu : PO X hi th) : PE X (.Subscript e (.Slice lo hi none p2) pos) (tSl r te tl th) := by
  intro pins s σ H Q I h
  refine Subscript_ (thn (he pins s σ H _ I h) fun v s1 ⟨x, H1, I1, r1, q1⟩ => ?_)
  refine wpAny_Slice (thn (hl pins s1 σ H1 _ I1 q1) fun vl s2 ⟨l, H2, I2, pl, q2⟩ => thn (hu pins s2 σ H2 _ I2 q2) fun vu s3 ⟨u, H3, I3, pu, q3⟩ => ?_)
  rw [evalPart_none]
  refine wpAny_pure ?_
  have I4 : Inv X pins σ H3 { s3 with heap := s3.heap.push { cls := .type "slice", data := .fields #[vl, vu, .none] } } := I3.kept (t' := s3.toks) fun b ob q => Heap.get?_push_of_some _ q
  obtain ⟨T, id, hT, ht, hg⟩ := hr pins { s3 with heap := s3.heap.push { cls := .type "slice", data := .fields #[vl, vu, .none] } } σ H3 x v vl vu l u s3.heap.objs.size Q I4 r1 (Heap.IsSliceOf.new ..) pl pu q3
  show wpAny (model X.prog X.w) X.A (subscriptTail e (.Slice lo hi none p2) v (.ref s3.heap.objs.size)) (EP X pins σ Q) X.xe { s3 with heap := s3.heap.push { cls := .type "slice", data := .fields #[vl, vu, .none] } }
  exact tail_any (ops := [.ref s3.heap.objs.size, v]) ht hT hg (by with_unfolding_all rfl)

/-- the items of xs[lo:hi] -/
def cutV (xs : List V) (lo hi : Option Int) : List V := (xs.drop (HT.sIx xs.length 0 lo)).take (HT.sIx xs.length xs.length hi - HT.sIx xs.length 0 lo)
theorem cutV_length (xs : List V) (lo hi : Option Int) : (cutV xs lo hi).length ≤ xs.length := by
  unfold cutV
  rw [List.length_take, List.length_drop]
  omega
/-- t[lo:hi], not the whole of it (the whole would be t itself) -/
def rSlT (K : PySem.W.Frag) : V → Option Int → Option Int → Hp → VK → Prop := fun x lo hi H Q => ∃ a xs, x = .ref a ∧ SqT K H a xs ∧
  ¬ (HT.sIx xs.length 0 lo = 0 ∧ HT.sIx xs.length xs.length hi = xs.length) ∧ ∀ p, H p = none → Q (.ref p) (upd H p (.tup (cutV xs lo hi)))
theorem sl_tup : SlR X (rSlT X.K) := by
  intro pins s σ H x v vl vu lo hi sl Q I rx hs pl pu h
  obtain ⟨a, xs, rfl, hx, hw, q⟩ := h
  cases rx
  obtain ⟨its, r, ht, hz⟩ := I.tuple hx
  have hlen : its.toArray.size = xs.length := by rw [List.size_toArray]; exact r.length.symm
  refine ⟨"tuple", _, PyProof.Rows.slot_tuple_getitem.lookup, ht.typeIs, ?_⟩
  refine HT.getItem_tuple_cut ht hs pl pu (by rw [hlen]; exact hw) ?_ (by rw [hlen]; exact hz)
  rw [hlen]
  refine ⟨.ref s.heap.objs.size, _, I.laid (t' := s.toks) (o := .tup (cutV xs lo hi)) (fun b ob q => Heap.get?_push_of_some _ q) (Nat.le_refl _) ?_, rfl, q _ (I.hok.fresh (Nat.le_refl _))⟩
  exact ⟨Nat.le_trans (cutV_length xs lo hi) hz, _, (r.drop (HT.sIx xs.length 0 lo)).take (HT.sIx xs.length xs.length hi - HT.sIx xs.length 0 lo), IsTup.new _ _⟩

/-! ### t < u, t + u -/
end
end L2

namespace L2
open PySem PySem.Spec PyProof.Rows

/-! ### places -/
/-- the place that an index of any sign means -/
def ixN (n : Nat) (i : Int) : Option Nat := if 0 ≤ i then (if i < n then some i.toNat else none) else if -(n : Int) ≤ i then some (i + n).toNat else none
def atI {α : Type} (xs : List α) (i : Int) : Option α := (ixN xs.length i).bind fun j => xs[j]?
theorem ixN_seq {n : Nat} {i : Int} {j : Nat} (h : ixN n i = some j) : seqIndex? i n = some j ∧ j < n ∧ -(n : Int) ≤ i ∧ i < n := by
  unfold ixN at h
  by_cases h0 : 0 ≤ i
  · rw [if_pos h0] at h
    by_cases h1 : i < n
    · rw [if_pos h1] at h
      have e : i.toNat = j := Option.some.inj h
      exact ⟨by rw [seqIndex_of h0 h1, e], by omega, by omega, h1⟩
    · rw [if_neg h1] at h; cases h
  · rw [if_neg h0] at h
    by_cases h1 : -(n : Int) ≤ i
    · rw [if_pos h1] at h
      have e : (i + n).toNat = j := Option.some.inj h
      exact ⟨by rw [seqIndex_neg (by omega) h1, e], by omega, h1, by omega⟩
    · rw [if_neg h1] at h; cases h
theorem atI_get {α : Type} {xs : List α} {i : Int} {v : α} (h : atI xs i = some v) : ∃ j, seqIndex? i xs.length = some j ∧ xs[j]? = some v ∧ j < xs.length ∧ -(xs.length : Int) ≤ i ∧ i < xs.length := by
  unfold atI at h
  cases e : ixN xs.length i with
  | none => rw [e] at h; cases h
  | some j =>
    rw [e] at h
    obtain ⟨h1, h2, h3, h4⟩ := ixN_seq e
    exact ⟨j, h1, h, h2, h3, h4⟩
theorem atI_nat {α : Type} {xs : List α} {j : Nat} {v : α} (h : xs[j]? = some v) : atI xs (j : Int) = some v := by
  have hj : j < xs.length := (List.getElem?_eq_some_iff.mp h).1
  have e : ixN xs.length (j : Int) = some j := by
    unfold ixN
    rw [if_pos (by omega), if_pos (by omega)]; simp
  unfold atI; rw [e]; exact h

/-! ### what may be subscripted -/
/-- what stands as an index of a plain subscript -/
def PlainIx (b : Expr) : Prop := ∀ o i, subscripted b false o i = operate [o, i] (getItem o i)
/-- a subscript by values -/
def IxR (X : Cx) (r : R2) : Prop :=
  ∀ (value slice : Expr) (pins : List (Addr × Obj)) (s : Shared) (σ : St) (H : Hp) (x y : V) (v u : Value) (Q : VK), Inv X pins σ H s → RelV x v → RelV y u → r x y H Q →
    subscripted slice false v u = operate [v, u] (getItem v u) → wpAny (model X.prog X.w) X.A (subscriptTail value slice v u) (EP X pins σ Q) X.xe s
/-- a call of a builtin's method by values: the receiver, the arguments -/
def MtR (X : Cx) (id : String) (r : V → List V → Hp → VK → Prop) : Prop :=
  ∀ (pins : List (Addr × Obj)) (s : Shared) (σ : St) (H : Hp) (x : V) (xs : List V) (v : Value) (us : List Value) (Q : VK), Inv X pins σ H s → RelV x v → Vals xs us → r x xs H Q →
    wpAny (model X.prog X.w) X.A (call (.builtin id) (v :: us)) (EP X pins σ Q) X.xe s
section
variable {X : Cx} {a b : Expr} {ta tb : TE} {pos : Pos}
/-- a[b] -/
theorem pe_ix {r : R2} (hr : IxR X r) (ha : PE X a ta) (hb : PE X b tb) (hs : PlainIx b) : PE X (.Subscript a b pos) (tOp r ta tb) := by
  intro pins s σ H Q I h
  exact Subscript_ (binT ha hb I h fun v u s2 x y H2 I2 rx ry q => hr a b pins s2 σ H2 x y v u Q I2 rx ry q (hs _ _))

def rIxL (K : PySem.W.Frag) : R2 := fun x y H Q => ∃ p xs i v, x = .ref p ∧ y = .int i ∧ SqL K H p xs ∧ atI xs i = some v ∧ Q v H
def rIxT (K : PySem.W.Frag) : R2 := fun x y H Q => ∃ p xs i v, x = .ref p ∧ y = .int i ∧ SqT K H p xs ∧ atI xs i = some v ∧ Q v H
def rIxS : R2 := fun x y H Q => ∃ z i c, x = .str z ∧ y = .int i ∧ z.length ≤ sizeLine ∧ atI z.cps.toList i = some c ∧ Q (.str ⟨#[c]⟩) H
theorem ix_list : IxR X (rIxL X.K) := by
  intro value slice pins s σ H x y v u Q I rx ry h hs
  obtain ⟨p, xs, i, z, rfl, rfl, hq, he, q⟩ := h
  cases rx
  obtain ⟨t, rfl⟩ := ry
  obtain ⟨its, r, pl, hz⟩ := I.list hq
  obtain ⟨j, h1, h2, h3, h4, h5⟩ := atI_get he
  obtain ⟨w, ew, rw'⟩ := r.get h2
  have hl := r.length
  have hn := line63
  have fin : EP X pins σ Q w s := ⟨z, H, I, rw', q⟩
  by_cases h0 : 0 ≤ i
  · have hj : i.toNat = j := by
      rw [seqIndex_of h0 h5] at h1
      exact Option.some.inj h1
    exact item_listR pl.isList h0 (by omega) (by rw [hj]; simpa using ew) fin hs
  · have hj : (i + (its.toArray.size : Int)).toNat = j := by
      rw [seqIndex_neg (by omega) h4] at h1
      rw [List.size_toArray, ← hl]
      exact Option.some.inj h1
    exact subscriptTail_builtinR (x := w) pl.isList.typeIs slot_list_getitem.lookup
      (wpAny_getItem_list_neg (Q := fun r s' => r = w ∧ EP X pins σ Q r s') pl.isList (by omega) (by rw [List.size_toArray] <;> omega) (by omega) (by rw [hj]; simpa using ew) ⟨rfl, fin⟩) hs
theorem ix_tup : IxR X (rIxT X.K) := by
  intro value slice pins s σ H x y v u Q I rx ry h hs
  obtain ⟨p, xs, i, z, rfl, rfl, hq, he, q⟩ := h
  cases rx
  obtain ⟨t, rfl⟩ := ry
  obtain ⟨its, r, pl, hz⟩ := I.tuple hq
  obtain ⟨j, h1, h2, h3, h4, h5⟩ := atI_get he
  obtain ⟨w, ew, rw'⟩ := r.get h2
  have hl := r.length
  have hn := line63
  have fin : EP X pins σ Q w s := ⟨z, H, I, rw', q⟩
  exact subscriptTail_builtinR (x := w) pl.typeIs slot_tuple_getitem.lookup
    (getItem_tuple (j := j) (Q := fun r s' => r = w ∧ EP X pins σ Q r s') pl (by omega) (by omega) (by rw [List.size_toArray, ← hl]; exact h1) (by simpa using ew) ⟨rfl, fin⟩) hs
theorem ix_str : IxR X rIxS := by
  intro value slice pins s σ H x y v u Q I rx ry h hs
  obtain ⟨z, i, c, rfl, rfl, hz, he, q⟩ := h
  obtain ⟨t, rfl⟩ := rx
  obtain ⟨t', rfl⟩ := ry
  obtain ⟨j, h1, h2, h3, h4, h5⟩ := atI_get he
  have hl : z.cps.toList.length = z.length := by simp [Str.length]
  rw [hl] at h1 h4 h5
  have hn := line63
  exact tail_any (typeIs_str s z t) slot_str_getitem.lookup (getItem_str (c := c) (by
    have e1 : decide (i < -(2 ^ 63 : Int)) = false := decide_eq_false (by omega)
    have e2 : decide (i ≥ 2 ^ 63) = false := decide_eq_false (by omega)
    rw [e1, e2, Bool.or_false]) (by rw [h1]; simpa using h2) ⟨.str ⟨#[c]⟩, H, I.tok _, ⟨_, rfl⟩, q⟩) hs

/-! ### xs[i] = v, any sign -/
/-- the list's object behind a store -/
theorem mapSeq_set (its : List Value) (n j : Nat) (u : Value) : Obj.mapSeq (·.setIfInBounds j u) { cls := .type "list", data := .seq its.toArray n } = { cls := .type "list", data := .seq (its.set j u).toArray n } := by
  simp [Obj.mapSeq]
theorem Inv.lst {pins : List (Addr × Obj)} {σ : St} {H : Hp} {s : Shared} {p : Addr} {xs : List V} (I : Inv X pins σ H s) (h : H p = some (.lst xs)) :
    ∃ (its : List Value) (n : Nat), Vals xs its ∧ s.heap.get? p = some { cls := .type "list", data := .seq its.toArray n } ∧ xs.length ≤ sizeLine := by
  obtain ⟨z, its, n, r, e⟩ := I.hok p _ h
  exact ⟨its, n, r, e, z⟩
/-- the list at p is written by an update of its object -/
theorem Inv.lstUpd {pins : List (Addr × Obj)} {σ : St} {H : Hp} {s : Shared} {p : Addr} {xs ys : List V} {its its' : List Value} {n n' : Nat} {f : Obj → Obj} (I : Inv X pins σ H s) (h : H p = some (.lst xs))
    (ho : s.heap.get? p = some { cls := .type "list", data := .seq its.toArray n }) (hf : f { cls := .type "list", data := .seq its.toArray n } = { cls := .type "list", data := .seq its'.toArray n' }) (r : Vals ys its') (hz : ys.length ≤ sizeLine) (t : Nat) :
    Inv X pins σ (upd H p (.lst ys)) { s with heap := s.heap.update p f, toks := t } := by
  have e : (s.heap.update p f).get? p = some { cls := .type "list", data := .seq its'.toArray n' } := by
    rw [Heap.get?_update_self f ho (by rw [hf] <;> rfl), hf]
  refine I.write (x := p) (e := p) (by rw [h]; trivial) (.inl rfl) (fun b u hb q => (Heap.get?_update_other _ _ (Ne.symm hb)).trans q) ⟨_, e⟩ ?_
  exact ⟨hz, its', n', r, e⟩
def rSetL : V → V → V → Hp → (Hp → Prop) → Prop := fun o i v H Q => ∃ p xs k j, o = .ref p ∧ i = .int k ∧ H p = some (.lst xs) ∧ ixN xs.length k = some j ∧ Q (upd H p (.lst (xs.set j v)))
theorem set_list : PSet X rSetL := by
  intro pins s σ H o i v ov iv u Q I ro ri rv h
  obtain ⟨p, xs, k, j, rfl, rfl, hp, hj, q⟩ := h
  cases ro
  obtain ⟨t, rfl⟩ := ri
  obtain ⟨its, n, r, ho, hz⟩ := I.lst hp
  obtain ⟨h1, h2, h3, h4⟩ := ixN_seq hj
  have hl := r.length
  have hn := line63
  have I' : Inv X pins σ (upd H p (.lst (xs.set j v))) { s with heap := s.heap.update p (Obj.mapSeq (·.setIfInBounds j u)) } :=
    I.lstUpd hp ho (mapSeq_set its n j u) (r.set rv j) (by rw [List.length_set]; exact hz) s.toks
  by_cases h0 : 0 ≤ k
  · have hk : k.toNat = j := by
      rw [seqIndex_of h0 h4] at h1
      exact Option.some.inj h1
    exact PySem.W.ki_setAt ho h0 (by omega) (by rw [List.size_toArray, ← hl]; exact h4) (by rw [hk]; exact ⟨_, I', q⟩)
  · have hk : (k + (its.toArray.size : Int)).toNat = j := by
      rw [seqIndex_neg (by omega) h3] at h1
      rw [List.size_toArray, ← hl]
      exact Option.some.inj h1
    exact PySem.W.ki_setBack ho (by omega) (by rw [List.size_toArray, ← hl]; exact h3) (by omega) (by rw [hk]; exact ⟨_, I', q⟩)

/-! ### slices -/
theorem slice_bounds (lo hi : Option Int) (n : Nat) : (sliceBounds lo hi none n).1 = ((HT.sIx n 0 lo : Nat) : Int) ∧ (sliceBounds lo hi none n).2.1 = ((HT.sIx n n hi : Nat) : Int) ∧ (sliceBounds lo hi none n).2.2 = 1 := by
  refine ⟨?_, ?_, rfl⟩
  · cases lo with
    | none => simp [sliceBounds, HT.sIx]
    | some i =>
      simp only [sliceBounds, HT.sIx, Option.getD_none, show (1 : Int) > 0 by decide, if_true]
      by_cases h : i < 0
      · simp only [h, if_true] <;> omega
      · simp only [h, if_false] <;> omega
  · cases hi with
    | none => simp [sliceBounds, HT.sIx]
    | some i =>
      simp only [sliceBounds, HT.sIx, Option.getD_none, show (1 : Int) > 0 by decide, if_true]
      by_cases h : i < 0
      · simp only [h, if_true] <;> omega
      · simp only [h, if_false] <;> omega
theorem slicePick_cut (its : List Value) (lo hi : Option Int) : slicePick its.toArray lo hi none = ((its.drop (HT.sIx its.length 0 lo)).take (HT.sIx its.length its.length hi - HT.sIx its.length 0 lo)).toArray := by
  obtain ⟨h1, h2, h3⟩ := slice_bounds lo hi its.toArray.size
  unfold slicePick
  rw [h1, h2, h3]
  simp only [sliceRange_one, pick_run, List.size_toArray] <;> rfl
/-- xs[lo:hi] of a list: a new list -/
def rSlL (K : PySem.W.Frag) : V → Option Int → Option Int → Hp → VK → Prop := fun x lo hi H Q => ∃ a xs, x = .ref a ∧ SqL K H a xs ∧ ∀ p, H p = none → Q (.ref p) (upd H p (.lst (cutV xs lo hi)))
theorem sl_list : SlR X (rSlL X.K) := by
  intro pins s σ H x v vl vu lo hi sl Q I rx hs pl pu h
  obtain ⟨a, xs, rfl, hx, q⟩ := h
  cases rx
  obtain ⟨its, r, ht, hz⟩ := I.list hx
  have hlen := r.length
  refine ⟨"list", _, slot_list_getitem.lookup, ht.isList.typeIs, ?_⟩
  refine wpAny_getItem_list_slice ht.isList hs pl pu .none (by simp) ?_ (by rw [List.size_toArray] <;> omega)
  rw [slicePick_cut, ← hlen]
  refine ⟨.ref s.heap.objs.size, _, I.laid (t' := s.toks) (o := .lst (cutV xs lo hi)) (fun b ob q => Heap.get?_push_of_some _ q) (Nat.le_refl _) ?_, rfl, q _ (I.hok.fresh (Nat.le_refl _))⟩
  exact ⟨Nat.le_trans (cutV_length xs lo hi) hz, _, 0, (r.drop (HT.sIx xs.length 0 lo)).take (HT.sIx xs.length xs.length hi - HT.sIx xs.length 0 lo), Heap.get?_push_size _ rfl⟩

/-! ### in, not in: flat items -/

/-! ### len, list(x), tuple(x) of any list or tuple that is read -/
theorem call_len_seq : CallR X (.builtin "len") (fun xs H Q => ∃ p ys, xs = [.ref p] ∧ (SqL X.K H p ys ∨ SqT X.K H p ys) ∧ Q (.int ys.length) H) := by
  intro pins s σ H xs us Q I r h
  obtain ⟨p, ys, rfl, hq, q⟩ := h
  obtain ⟨u, rfl, rx⟩ := vals1 r
  cases rx
  have hn := line63
  rcases hq with hq | hq
  · obtain ⟨its, r', pl, hz⟩ := I.list hq
    have hlen := r'.length
    exact Calls.call_len_list pl.isList (by simp only [List.size_toArray] <;> omega) ⟨.int ys.length, H, I.tok _, ⟨s.toks + 1, by rw [List.size_toArray, hlen]⟩, q⟩
  · obtain ⟨its, r', pl, hz⟩ := I.tuple hq
    have hlen := r'.length
    exact len_tuple pl (by simp only [List.size_toArray] <;> omega) ⟨.int ys.length, H, I.tok _, ⟨s.toks + 1, by rw [List.size_toArray, hlen]⟩, q⟩
theorem call_len_str : CallR X (.builtin "len") (fun xs H Q => ∃ z, xs = [.str z] ∧ z.length ≤ sizeLine ∧ Q (.int z.length) H) := by
  intro pins s σ H xs us Q I r h
  obtain ⟨z, rfl, hz, q⟩ := h
  obtain ⟨u, rfl, t, rfl⟩ := vals1 r
  have hn := line63
  exact len_str (by omega) ⟨.int z.length, H, I.tok _, ⟨_, rfl⟩, q⟩
theorem call_list_of : CallR X (.type "list") (fun xs H Q => ∃ p ys, xs = [.ref p] ∧ (SqL X.K H p ys ∨ SqT X.K H p ys) ∧ ∀ l, H l = none → Q (.ref l) (upd H l (.lst ys))) := by
  intro pins s σ H xs us Q I r h
  obtain ⟨p, ys, rfl, hq, q⟩ := h
  obtain ⟨u, rfl, rx⟩ := vals1 r
  cases rx
  have fin : ∀ (its : List Value), Vals ys its → ys.length ≤ sizeLine → ∀ (h' : Heap) (c' : Nat), (∀ b o', s.heap.get? b = some o' → h'.get? b = some o') →
      h'.get? s.heap.objs.size = some { cls := .type "list", dict := none, data := .seq its.toArray c', slots := #[] } → EP X pins σ Q (.ref s.heap.objs.size) { s with heap := h' } := fun its r' hz h' c' kp e =>
    ⟨.ref s.heap.objs.size, _, I.laid (t' := s.toks) kp (Nat.le_refl _) (show ObjOk X.prog X.w _ h' _ (.lst ys) from ⟨hz, its, c', r', e⟩), rfl, q _ (I.hok.fresh (Nat.le_refl _))⟩
  rcases hq with hq | hq
  · obtain ⟨its, r', pl, hz⟩ := I.list hq
    have hlen := r'.length
    obtain ⟨o, ho, hc, n, hd⟩ := pl.isList
    exact call_list_seq p (.inl rfl) ho hc hd (fun h' c' kp e => fin its r' hz h' c' kp e) (by simp only [List.size_toArray] <;> omega)
  · obtain ⟨its, r', pl, hz⟩ := I.tuple hq
    have hlen := r'.length
    obtain ⟨o, ho, hc, n, hd⟩ := pl
    exact call_list_seq p (.inr rfl) ho hc hd (fun h' c' kp e => fin its r' hz h' c' kp e) (by simp only [List.size_toArray] <;> omega)
theorem call_tuple_of : CallR X (.type "tuple") (fun xs H Q => ∃ p ys, xs = [.ref p] ∧ ((SqL X.K H p ys ∧ ∀ l, H l = none → Q (.ref l) (upd H l (.tup ys))) ∨ (SqT X.K H p ys ∧ Q (.ref p) H))) := by
  intro pins s σ H xs us Q I r h
  obtain ⟨p, ys, rfl, h⟩ := h
  obtain ⟨u, rfl, rx⟩ := vals1 r
  cases rx
  rcases h with ⟨hq, q⟩ | ⟨hq, q⟩
  · obtain ⟨its, r', pl, hz⟩ := I.list hq
    have hlen := r'.length
    refine call_tuple_list pl.isList (fun h' kp => ?_) (by simp only [List.size_toArray] <;> omega)
    have I1 : Inv X pins σ H { s with heap := h' } := I.kept (t' := s.toks) kp
    have I2 : Inv X pins σ (upd H h'.objs.size (.tup ys)) { s with heap := h'.push { cls := .type "tuple", data := .seq its.toArray } } :=
      I1.laid (t' := s.toks) (fun b o e => Heap.get?_push_of_some _ e) (Nat.le_refl _) (show ObjOk X.prog X.w _ _ _ (.tup ys) from ⟨hz, its, r', IsTup.new _ _⟩)
    exact ⟨.ref h'.objs.size, _, I2, rfl, q _ (I1.hok.fresh (Nat.le_refl _))⟩
  · obtain ⟨its, r', pl, hz⟩ := I.tuple hq
    exact call_tuple_same pl ⟨.ref p, H, I, rfl, q⟩

/-! ### the call of a builtin's method: o.m(..) -/
/-- the value is of that builtin type -/
def tyV (K : PySem.W.Frag) (T : String) (x : V) (H : Hp) : Prop := match x with
  | .str _ => T = "str"
  | .int _ => T = "int"
  | .ref p => (T = "list" ∧ ∃ xs, SqL K H p xs) ∨ (T = "tuple" ∧ ∃ o, K.lookup p = some o ∧ o.cls = .type "tuple" ∧ o.dict = none) ∨
      (T = "dict" ∧ ((∃ kvs, H p = some (.dK kvs)) ∨ ∃ kvs, H p = some (.dT kvs))) ∨ (T = "set" ∧ ∃ S n, H p = some (.set S n))
  | _ => False
theorem tyV_is {pins : List (Addr × Obj)} {σ : St} {H : Hp} {s : Shared} {T : String} {x : V} {v : Value} (I : Inv X pins σ H s) (r : RelV x v) (ty : tyV X.K T x H) :
    s.TypeIs v T ∧ ∀ a, v = .ref a → ∃ ob, s.heap.get? a = some ob ∧ ob.dict = none := by
  cases x with
  | str z =>
    obtain ⟨t, rfl⟩ := r
    cases (show T = "str" from ty)
    exact ⟨typeIs_str s z t, fun _ e => nomatch e⟩
  | int i =>
    obtain ⟨t, rfl⟩ := r
    cases (show T = "int" from ty)
    exact ⟨typeIs_int s i t, fun _ e => nomatch e⟩
  | ref p =>
    cases r
    rcases ty with ⟨rfl, xs, hq⟩ | ⟨rfl, o, hk, hc, hd⟩ | ⟨rfl, hk⟩ | ⟨rfl, S, n, hk⟩
    · obtain ⟨its, _, pl, _⟩ := I.list hq
      refine ⟨pl.isList.typeIs, fun a e => ?_⟩
      cases e
      obtain ⟨o, n, e, c, hd, _⟩ := pl
      exact ⟨o, e, hd⟩
    · refine ⟨⟨o, I.kIn p o hk, hc⟩, fun a e => ?_⟩
      cases e
      exact ⟨o, I.kIn _ o hk, hd⟩
    · have z : ∃ o, s.heap.get? p = some o ∧ o.ExactDict := by
        rcases hk with ⟨kvs, hk⟩ | ⟨kvs, hk⟩
        · obtain ⟨_, _, _, _, o, _, _, e, ex, _⟩ := I.hok p _ hk
          exact ⟨o, e, ex⟩
        · obtain ⟨_, _, _, _, o, _, _, e, ex, _⟩ := I.hok p _ hk
          exact ⟨o, e, ex⟩
      obtain ⟨o, e, ex⟩ := z
      refine ⟨⟨o, e, ex.1⟩, fun a e2 => ?_⟩
      cases e2
      exact ⟨o, e, ex.2.1⟩
    · obtain ⟨o, _, _, _, e, ex, _⟩ := I.hok p _ hk
      refine ⟨⟨o, e, ex.1⟩, fun a e2 => ?_⟩
      cases e2
      exact ⟨o, e, ex.2.1⟩
  | _ => exact False.elim ty
def tBM (K : PySem.W.Frag) (T : String) (r : V → List V → Hp → VK → Prop) (to : TE) (t : TA) : TE := fun σ H Q => to σ H fun x H1 => tyV K T x H1 ∧ t σ H1 fun xs H2 => r x xs H2 Q
variable {o e : Expr} {es : List Expr} {to : TE} {t : TA} {name : Str} {apos cpos : Pos} {T id : String} {r : V → List V → Hp → VK → Prop}
theorem pe_bm (pa : PlainAttrs T) (slot : Slot T name id) (hty : typeOf (.builtin id) = pure (.type "method_descriptor")) (hm : MtR X id r) (ho : PE X o to) (ha : PA X (e :: es) t)
    (hbase : attributeBase o name X.env (eval o X.env) = eval o X.env := by rfl)
    (hfew : ((backTo cpos (starEach (e :: es) X.env)).all (fun x => !x.1) && (backToKw cpos (keywordEach [] X.env)).all (fun x => x.1.isSome)
      && decide ((e :: es).length + ([] : List Keyword).length + (if ([] : List Keyword).isEmpty then 0 else 1) < 30)) = true := by rfl)
    (hline : (apos.endLine == cpos.line) = true := by rfl) (hs : starEach (e :: es) X.env = (false, eval e X.env) :: starEach es X.env := by rfl) (hplain : (backTo cpos (starEach es X.env)).any (·.1) = false := by rfl) :
    PE X (.Call (.Attribute o name apos) (e :: es) [] cpos) (tBM X.K T r to t) := by
  intro pins s σ H Q I h
  refine wpAny_Call_method_late hbase hfew hline rfl (thn (ho pins s σ H _ I h) fun v s1 ⟨x, H1, I1, r1, ty, q1⟩ => ?_)
  obtain ⟨h1, h2⟩ := tyV_is I1 r1 ty
  refine ⟨T, id, pa, slot, hty, h1, h2, ?_⟩
  have hA := ha cpos pins s1 σ H1 _ I1 q1
  rw [hs] at hA ⊢
  refine Calls.callWith_builtin (by show (false || (backTo cpos (starEach es X.env)).any (·.1)) = false; rw [hplain] <;> rfl) (Calls.evalArgs_plain ?_)
  exact thn hA fun us s2 ⟨vs, H2, I2, r2, q2⟩ => hm pins s2 σ H2 x vs v us Q I2 r1 r2 q2
/- xs.append(e), list.index on a module's tuple .. are MtR facts of 06m -/
end
end L2

namespace L2
open PySem PySem.Spec PyProof.Rows

def MtM (X : Cx) (id : String) (r : V → List V → Hp → VK → Prop) : Prop :=
  ∀ (pins : List (Addr × Obj)) (s : Shared) (σ : St) (H : Hp) (x : V) (xs : List V) (v : Value) (us : List Value) (Q : VK), Inv X pins σ H s → RelV x v → Vals xs us → r x xs H Q →
    wpAny (model X.prog X.w) X.A (call (.builtin id) (v :: us)) (EP X pins σ Q) X.xe s

/-! ### lists of values -/
theorem Vals.one : ∀ {x : V} {us : List Value}, Vals [x] us → ∃ u, us = [u] ∧ RelV x u
  | _, _, .cons r .nil => ⟨_, rfl, r⟩

section
variable {X : Cx} {pins : List (Addr × Obj)} {σ : St} {H : Hp} {s : Shared} {l b : Addr} {xs ys zs : List V}

/-! ### the two steps: a tracked list is rewritten, a new list is laid -/
theorem Inv.lset {its its' : List Value} {n : Nat} {f : Array Value → Array Value} {t' : Nat} (I : Inv X pins σ H s) (hH : H l = some (.lst xs))
    (e : s.heap.get? l = some { cls := .type "list", data := .seq its.toArray n }) (hf : f its.toArray = its'.toArray) (hv : Vals ys its') (hz : ys.length ≤ sizeLine) :
    Inv X pins σ (upd H l (.lst ys)) { s with heap := s.heap.update l (Obj.mapSeq f), toks := t' } := by
  have q := PySem.IsL.update e f
  rw [hf] at q
  refine I.write (x := l) (e := l) (by rw [hH]; exact trivial) (.inl rfl) (fun b' u hb hu => (Heap.get?_update_other s.heap (Obj.mapSeq f) (Ne.symm hb)).trans hu) ⟨_, q⟩ ?_
  exact ⟨hz, its', _, hv, q⟩
theorem Inv.lnew {its : List Value} {t' : Nat} (I : Inv X pins σ H s) (hv : Vals ys its) (hz : ys.length ≤ sizeLine) :
    Inv X pins σ (upd H s.heap.objs.size (.lst ys)) { s with heap := s.heap.push { cls := .type "list", data := .seq its.toArray }, toks := t' } :=
  I.laid (fun _ _ q => Heap.get?_push_of_some _ q) (Nat.le_refl _) ⟨hz, its, 0, hv, Heap.get?_push_size _ rfl⟩
theorem Inv.fresh (I : Inv X pins σ H s) : H s.heap.objs.size = none := I.hok.fresh (Nat.le_refl _)
theorem Inv.lstM (I : Inv X pins σ H s) (hH : H l = some (.lst xs)) : xs.length ≤ sizeLine ∧ ∃ (its : List Value) (n : Nat), Vals xs its ∧ xs.length = its.length ∧ s.heap.get? l = some { cls := .type "list", data := .seq its.toArray n } := by
  obtain ⟨z, its, n, r, e⟩ := I.hok l _ hH
  exact ⟨z, its, n, r, r.length, e⟩

end

section
variable {X : Cx}

/-! ### methods -/
def rAppend : V → List V → Hp → VK → Prop := fun x vs H Q => ∃ l xs y, x = .ref l ∧ vs = [y] ∧ H l = some (.lst xs) ∧ xs.length < sizeLine ∧ Q .non (upd H l (.lst (xs ++ [y])))
theorem mt_append : MtM X "list.append" rAppend := by
  intro pins s σ H x vs v us Q I rx rv h
  obtain ⟨l, xs, y, rfl, rfl, hH, hz, q⟩ := h
  cases rx
  obtain ⟨u, rfl, ru⟩ := rv.one
  obtain ⟨z, its, n, r, hl, e⟩ := I.lstM hH
  refine call_meets F.slot_list_append ⟨_, e, rfl⟩ F.entry_list_append (F.args_list_append_2 _ _) (PySem.list_append l its.toArray n u (by rw [List.size_toArray]; omega)) ⟨e, ?_⟩
  refine ⟨.non, _, I.lset (its' := its ++ [u]) hH e (by simp) (r.append (.cons ru .nil)) ?_, rfl, q⟩
  rw [List.length_append, List.length_singleton]
  omega






/-! ### list + list, list += list, list * int -/
def rCat : R2 := fun x y H Q => ∃ l b xs zs, x = .ref l ∧ y = .ref b ∧ H l = some (.lst xs) ∧ H b = some (.lst zs) ∧ xs.length + zs.length ≤ sizeLine ∧ ∀ p, H p = none → Q (.ref p) (upd H p (.lst (xs ++ zs)))
theorem op_cat : OpR X (binaryOp .Add) rCat := by
  intro pins s σ H x y v u Q I rx ry h
  obtain ⟨l, b, xs, zs, rfl, rfl, hH, hB, hz, q⟩ := h
  cases rx
  cases ry
  obtain ⟨z, its, n, r, hl, e⟩ := I.lstM hH
  obtain ⟨z2, its2, n2, r2, hl2, e2⟩ := I.lstM hB
  refine PySem.P.add_list e e2 ?_ (by rw [List.size_toArray, List.size_toArray]; omega)
  have ea : its.toArray ++ its2.toArray = (its ++ its2).toArray := by simp
  rw [ea]
  exact ⟨.ref _, _, I.lnew (t' := s.toks) (r.append r2) (by rw [List.length_append]; omega), rfl, q _ I.fresh⟩

/-! ### del xs[i] -/
end

/-! ### xs[a:b] = ys -/
section
variable {prog : Program} {w : World} {A : Around} {E : Value → Shared → Prop} {s : Shared}
set_option maxRecDepth 100000 in
end

end L2

namespace Att
open PySem PySem.W PySem.Calls PyProof.Rows

/-! ### the script -/
theorem ints_of_wellAll {P : Params} {h : Heap} : ∀ (ns : List Int) (vs : List Value), WellAll P h vs (ns.map WData.int) → IntsAre vs ns := by
  intro ns
  induction ns with
  | nil =>
    intro vs w
    rw [List.map_nil] at w
    cases w
    exact .nil
  | cons n ns ih =>
    intro vs w
    rw [List.map_cons] at w
    cases w with
    | cons a b =>
      cases a
      exact .cons _ _ (ih _ b)

theorem script_of {l : OpenLaw} {n : Nat} (hn : l.most = some n) {P : Params} {h : Heap} {args : List WData} {vals : List Value}
    (hpre : l.row.toRowW.claim.pre args = true) (hwl : WellAll P h vals args) :
    ∃ a vs ns, vals = [Value.ref a] ∧ args = [WData.list (ns.map WData.int)] ∧ h.get? a = some { cls := .type "list", data := .seq vs.toArray } ∧ IntsAre vs ns ∧ ns.length ≤ n := by
  have hsh : WShape.hasAll [] args [.list .int] = true := (pre_splitW hpre).1
  have hc : l.pre.holds [] { args := args } = true := (pre_splitW hpre).2
  obtain ⟨d, r, rfl, h1, h2⟩ := hasAllW_cons hsh
  obtain rfl := hasAllW_nil h2
  obtain ⟨xs, rfl, h3⟩ := hasW_list h1
  obtain ⟨ns, rfl⟩ := items_int h3
  have hlen : ns.length ≤ n := by
    unfold OpenLaw.pre at hc
    have h4 : (WTm.not (.lt (.lit (.int (n : Int))) (.len (.arg 0)))).holds [] { args := [.list (ns.map .int)] } = true := by
      have h4 := (holds_andW hc).1
      rw [hn] at h4
      exact h4
    have h5 := condW_of h4 (w_not (w_lt w_lit (w_len_list (w_arg rfl))))
    rw [List.length_map] at h5
    refine Nat.le_of_not_lt fun q => ?_
    have q' : (n : Int) < ((ns.length : Nat) : Int) := by omega
    first
      | (rw [decide_eq_true q'] at h5; exact absurd h5 (by decide))
      | (simp at h5; omega)
  cases hwl with
  | cons w1 w2 =>
    cases w2
    cases w1 with
    | list ho hall => exact ⟨_, _, ns, rfl, rfl, ho, ints_of_wellAll ns _ hall, hlen⟩

theorem post_true (l : OpenLaw) (args : List WData) : l.row.toRowW.claim.post args (.bool true) args = true :=
  postW_of (r := l.row.toRowW) (X := (true == true))
    (show WShape.has [] (.bool true) .bool = true by first | rfl | decide | simp [WShape.has, WShape.arms, WShape.armsAll])
    (show (WTm.eq .res (.lit (.bool true))).value [] { args := args, res := some (.bool true), after := args } = some (.bool (true == true)) from w_eq_bool (w_res rfl) w_lit) rfl

/-! ### the attachment: holds_open's last premise (the goal 'hc' behind k_head) from a wpAny of the law's body -/

/-- the same from a codeAny of the CALL (for a layer whose function contracts speak of calls) -/
theorem attach_call {l : OpenLaw} {n : Nat} {q : Program} {loose : List Str} {XP : (Str → Option Value) → Heap → Prop} {YP : World → Heap → Prop} {d : DefRec}
    (hn : l.most = some n) (hdf : d.params.defaults = [])
    (call : ∀ (w : World) (s₀ s₁ : Shared) (mg mb : Str → Option Value) (fa : Addr) (o : Obj) (pm cd doc : Value) (a : Addr) (vs : List Value) (ns : List Int),
      Ground q loose [] XP w s₀ mg mb s₁.heap → YP w s₁.heap →
      s₁.heap.get? fa = some o → o.data = .func (docDef d.name d.params d.body d.scope pm cd doc) → s₁.heap.CodeRec cd d.name → mg d.name = some (.ref fa) →
      s₁.heap.get? a = some { cls := .type "list", data := .seq vs.toArray } → IntsAre vs ns → ns.length ≤ n → s₁.gens = #[] →
      codeAny (model l.prog w) callerA (.call (.ref fa) ⟨[.ref a], []⟩) (fun r s' => r = .ok (.ret (.bool true)) ∧ OldK s₁.heap s'.heap ∧ s'.os = s₁.os ∧ AllBare s'.gens) s₁) :
    WalkO q loose XP YP l.row.toRowW d [] (fun f vs => PySem.call f vs) := by
  intro w s₀ s₁ mg mb G Y fa o pm cd doc dV kV ho hd hcd hD hmg hg args vals as hpre hlay hrd hwl hlo
  obtain rfl : dV = .none := Dflts.none hD hdf
  obtain rfl : kV = .none := Dflts.noKw hD
  obtain ⟨a, vs, ns, rfl, rfl, hobj, hints, hlen⟩ := script_of hn hpre hwl
  refine enter_call (codeAny_mono (call w s₀ s₁ mg mb fa o pm cd doc a vs ns G Y ho (fd_plain hd) hcd hmg hobj hints hlen hg) fun r s' hq => ?_)
  obtain ⟨rfl, h2, h3, h4⟩ := hq
  exact ⟨.inl ⟨.bool true, .bool true, [], rfl, fun _ => rfl, .bool true, post_true l _, fun _ => ⟨List.Pairwise.nil, fun _ hm => (nomatch hm)⟩⟩, h2, h3, h4⟩


/-! ### rules over ANY heap (no ledger) from facts about the written part K: the library's own take a ledger (News) for what they write -/
section
variable {prog : Program} {w : World} {A : Around} {E : Value → Shared → Prop} {s : Shared} {K : Frag}





/-! the whole heap as the ledger: makes every rule that writes through a ledger a rule over any heap -/

end
end Att

namespace L2
open PySem PySem.Spec PyProof.Rows

theorem vals_ints : ∀ {vs : List Value} {ns : List Int}, IntsAre vs ns → Vals (ns.map V.int) vs
  | _, _, .nil => .nil
  | _, _, .cons n t h => .cons ⟨t, rfl⟩ (vals_ints h)

/-- nothing is tracked but the script, known to the object (or it is an object of the module) -/
def Only (H : Hp) : Prop := ∀ b, H b = none ∨ ∃ o xs, H b = some (.frz o (.lst xs))

/-- THE HEAD: the law's promise, at the heap behind the top. F, the promise of the law's def, may use that base is part of the heap (so K.In base, base.Ns mainGlobals mg stand in Mod) -/
theorem law_call {P : Program} {w : World} {K : PySem.W.Frag} {mg mb : Str → Option Value} {CX : CXT} {k : Nat} {fa a : Addr} {fd : FuncData} {x : Str} {sp : Sp} {s₁ : Shared} {vs : List Value} {ns : List Int}
    (KX : K.In s₁.heap) (hns : s₁.heap.Ns mainGlobals mg) (hb : s₁.heap.Ns builtinsNs mb) (hbb : ∀ x : Str, x ≠ "__name__" → mb x = bootBuiltins x) (hlim : s₁.heap.NoLimit) (hg : s₁.gens = #[])
    (ha : s₁.heap.get? a = some { cls := .type "list", data := .seq vs.toArray }) (hi : IntsAre vs ns) (hl : ns.length ≤ sizeLine) (hr : Room k callerA)
    (F : ∀ base : Heap, K.In base → base.Ns mainGlobals mg → FnOk P w K mg base CX k fa fd [x] sp) (hbind : ∀ (s : Shared) (u : Value), BindsTo s fd ⟨[u], []⟩ [(x, u)])
    (hsp : ∀ H : Hp, Only H → SqL K H a (ns.map V.int) → sp [.ref a] H (fun v _ => v = .bl true) fun _ _ _ => False)
    (hCX : ∀ H e s', CX [] H s₁ (fun _ _ _ => False) e s' → False) :
    codeAny (model P w) callerA (.call (.ref fa) ⟨[.ref a], []⟩) (fun r s' => r = .ok (.ret (.bool true)) ∧ OldK s₁.heap s'.heap ∧ s'.os = s₁.os ∧ AllBare s'.gens) s₁ := by
  have rv := vals_ints hi
  have lenV := hi.length
  -- from an abstract heap in which nothing but the script may be tracked
  have core : ∀ H : Hp, Only H → SqL K H a (ns.map V.int) → HOk P w H s₁.heap → (∀ b, H b ≠ none → b = a) → (H a ≠ none → K.lookup a = none) →
      codeAny (model P w) callerA (.call (.ref fa) ⟨[.ref a], []⟩) (fun r s' => r = .ok (.ret (.bool true)) ∧ OldK s₁.heap s'.heap ∧ s'.os = s₁.os ∧ AllBare s'.gens) s₁ := by
    intro H hO hS hok hA hK
    have base_of : ∀ {b : Addr} {o : Obj}, s₁.heap.get? b = some o → H b = none → (hidT s₁.heap H).get? b = some o := fun e n => hidT_get e n
    have noA : ∀ {b : Addr} {o : Obj} {es : Array DictEntry} {ep : Nat}, s₁.heap.get? b = some o → o.data = .dict es ep → H b = none := fun {b o es ep} e d => by
      cases q : H b with
      | none => rfl
      | some u =>
        have e' : b = a := hA b (by rw [q]; simp)
        subst e'
        rw [ha] at e; cases e
        have d' : Data.seq vs.toArray _ = Data.dict es ep := d
        cases d'
    have nsK : ∀ {b : Addr} {m : Str → Option Value}, s₁.heap.Ns b m → (hidT s₁.heap H).Ns b m := fun {b m} ⟨o, es, ep, e, d, r⟩ => ⟨o, es, ep, base_of e (noA e d), d, r⟩
    have hKb : K.In (hidT s₁.heap H) := fun b o e => base_of (KX b o e) (by
      cases q : H b with
      | none => rfl
      | some u =>
        have e' : b = a := hA b (by rw [q]; simp)
        subst e'
        rw [hK (by rw [q]; simp)] at e; cases e)
    have hM : Mod K mg (hidT s₁.heap H) := ⟨hKb, nsK hns, ⟨mb, nsK hb, hbb⟩, let ⟨mc, h1, h2⟩ := hlim; ⟨mc, nsK h1, h2⟩⟩
    have e0 : Env0 P w K mg (hidT s₁.heap H) callerA [] s₁ H := ⟨rfl, hM, fun b o e => of_hidT e, Nat.le_of_eq (hidT_size _ _), trivial, fun b hb => absurd (show b ∈ ([] : List Addr) from hb) (by simp), hok, .of_eq hg⟩
    refine codeAny_mono ((F _ hKb (nsK hns)).run callerA [] s₁ H ⟨[.ref a], []⟩ [.ref a] [.ref a] _ _ hr e0 (hbind s₁ (.ref a)) (.cons rfl .nil) (hsp H hO hS)) fun r s' h => ?_
    cases r with
    | error e => exact (hCX H e s' h).elim
    | ok fl =>
      cases fl with
      | next => exact False.elim h
      | brk => exact False.elim h
      | cont => exact False.elim h
      | ret u =>
        obtain ⟨v, H', os, bare, un, hok', r', q⟩ := h
        have q' : v = .bl true := q
        subst q'
        obtain rfl : u = Value.bool true := r'
        refine ⟨rfl, OldK.of_keep fun b o e => ?_, os, bare⟩
        cases q : H b with
        | none => exact un.keep b o e q (by intro z; exact absurd (show b ∈ ([] : List Addr) from z) (by simp)) (by simp)
        | some u =>
          rcases hO b with z | ⟨ob, xs, z⟩
          · rw [q] at z; cases z
          · have z2 := un.frzs b ob _ z
            obtain ⟨e1, _⟩ := hok b _ z
            obtain ⟨e2, _⟩ := hok' b _ z2
            rw [e] at e1; cases e1
            exact e2
  cases hk : K.lookup a with
  | some o =>
    -- the script is one of the module's own objects
    have e := KX a o hk
    rw [ha] at e
    cases e
    refine core (fun _ => none) (fun _ => .inl rfl) (.inr ⟨_, vs.toArray, _, hk, rfl, rfl, rfl, by rw [List.size_toArray, lenV]; exact hl, by simpa using rv⟩) (fun b u z => by have z' : (none : Option HO) = some u := z; cases z') (fun b z => absurd rfl z) fun z => absurd rfl z
  | none =>
    refine core (fun b => if b = a then some (.frz { cls := .type "list", data := .seq vs.toArray } (.lst (ns.map V.int))) else none) (fun b => ?_) (.inl (.inr ⟨{ cls := .type "list", data := .seq vs.toArray }, if_pos rfl⟩)) (fun b u z => ?_) (fun b z => ?_) fun _ => hk
    · by_cases hb : b = a
      · exact .inr ⟨_, _, if_pos hb⟩
      · exact .inl (if_neg hb)
    · by_cases hb : b = a
      · have z' := (if_pos hb).symm.trans z
        cases z'
        subst hb
        exact ⟨ha, by rw [List.length_map]; exact hl, vs, _, rv, ha⟩
      · have z' := (if_neg hb).symm.trans z
        cases z'
    · by_cases hb : b = a
      · exact hb
      · exact absurd (if_neg hb) z
end L2

namespace L2
open PySem PySem.Spec PyProof.Rows


/-- the goal that k_head leaves (case hc), from the law's promise. F gives the function object fd (K's own) once, then the promise over every base -/
theorem walk_of {l : PySem.W.OpenLaw} {n k : Nat} {q : Program} {loose : List Str} {XP : (Str → Option Value) → Heap → Prop} {YP : World → Heap → Prop} {d : DefRec} {K : Params → PySem.W.Frag} {CX : World → CXT} {sp : World → Sp} {x : Str}
    (hn : l.most = some n) (hn2 : n ≤ sizeLine) (hdf : d.params.defaults = []) (hr : Room k callerA)
    (hY : ∀ (w : World) (h : Heap), YP w h → (K w.params).In h)
    (F : ∀ (w : World) (mg : Str → Option Value) (fa : Addr) (h : Heap), (K w.params).In h → h.Ns mainGlobals mg → mg d.name = some (.ref fa) →
      ∃ fd : FuncData, (∀ (s : Shared) (u : Value), BindsTo s fd ⟨[u], []⟩ [(x, u)]) ∧
        ∀ base : Heap, (K w.params).In base → base.Ns mainGlobals mg → FnOk l.prog w (K w.params) mg base (CX w) k fa fd [x] (sp w))
    (hsp : ∀ (w : World) (H : Hp) (a : Addr) (ns : List Int), ns.length ≤ n → Only H → SqL (K w.params) H a (ns.map V.int) → sp w [.ref a] H (fun v _ => v = .bl true) fun _ _ _ => False)
    (hCX : ∀ (w : World) (H : Hp) (s : Shared) (e : Value) (s' : Shared), CX w [] H s (fun _ _ _ => False) e s' → False) :
    PySem.W.WalkO q loose XP YP l.row.toRowW d [] (fun f vs => PySem.call f vs) := by
  refine Att.attach_call hn hdf fun w s₀ s₁ mg mb fa o pm cd doc a vs ns G Y ho hd hcd hmg hobj hints hlen hg => ?_
  have KX := hY w _ Y
  obtain ⟨fd, hb, hF⟩ := F w mg fa _ KX G.T.g hmg
  exact law_call KX G.T.g G.T.b G.T.builtins G.T.nolimit hg hobj hints (Nat.le_trans hlen hn2) hr hF hb (fun H hO hS => hsp w H a ns hlen hO hS) fun H e s' => hCX w H s₁ e s'
end L2



/-! SHORT WORDS over the layer: a def of the text, its body, what a loop and a test want. -/
namespace L2
open PySem PySem.Spec PyProof.Rows

/-! ### the text by places -/
def defArgs (s : Stmt) : Arguments := match s with
  | .FunctionDef _ a _ _ _ _ _ _ _ _ => a
  | _ => { posonlyargs := [], args := [], vararg := none, kwonlyargs := [], kw_defaults := [], kwarg := none, defaults := [] }
def defBody (s : Stmt) : List Stmt := match s with
  | .FunctionDef _ _ b _ _ _ _ _ _ _ => b
  | _ => []
def defScope (s : Stmt) : Scope := match s with
  | .FunctionDef _ _ _ _ _ _ sc _ _ _ => sc
  | _ => { kind := .function, names := [], isGenerator := false, isCoroutine := false }

/-! ### no exception leaves a def -/
abbrev CX0 : CXT := fun _ _ _ _ _ _ => False
abbrev E0 : XK := fun _ _ _ => False
theorem pass0 {X : Cx} : Passes CX0 X E0 := fun _ _ _ _ _ _ _ h => h.elim

/-! ### a def (or method) of the text as it stands behind the top -/
structure Fun (K : PySem.W.Frag) (x qual : Str) (st : Stmt) (f : Addr) (fd : FuncData) : Prop where
  ex : ∃ (oc : Value) (od : Option Addr) (kV doc pm : Value) (an : Option Addr) (cdv ct : Value) (osl : Array (Option Value)),
    fd = PySem.W.fnOf x qual (defArgs st) (defBody st) (defScope st) .none kV doc pm an cdv ct ∧ K.lookup f = some ⟨oc, od, .func fd, osl⟩ ∧ PySem.W.codeIn K cdv qual = true
  kp : PySem.W.keepIn K (.ref f) = true
section
variable {P : Program} {w : World} {K : PySem.W.Frag} {mg : Str → Option Value} {base : Heap}
/-- THE RULE for a def: its body as a term of rules, and the reading of that term -/
theorem Fun.ok {x qual : Str} {st : Stmt} {f : Addr} {fd : FuncData} {N ps : List Str} {k : Nat} {sp : Sp} (F : Fun K x qual st f fd) (S : FnScope N ps (defScope st)) (len : ∀ vs H Q E, sp vs H Q E → vs.length = ps.length)
    (hbody : ∀ (cdv : Value) (A : Around) (outer : List Env) (s : Shared) (H : Hp) (vs : List V) (Q : VK) (E : XK), Room k (A.deeper (envOfC qual (defScope st) s.heap.objs.size f cdv)) → sp vs H Q E →
      ∃ t, PSs (cxOf CX0 P w K mg base N qual (defScope st) f cdv A outer s H E).nox (defBody st) t ∧ t { nx := fun _ H' => Q .non H', rt := Q } (start N vs) H) : FnOk P w K mg base CX0 (k + 1) f fd ps sp := by
  obtain ⟨oc, od, kV, doc, pm, an, cdv, ct, osl, rfl, lk, hcd⟩ := F.ex
  refine fn_of lk hcd S len fun A outer s H vs Q E hr hsp => ?_
  obtain ⟨t, h, q⟩ := hbody cdv A outer s H vs Q E hr hsp
  exact ⟨t, h.nox, q⟩
/-- how its arguments bind (no defaults): h is «fun _ _ _ _ _ _ us hl => match us, hl with | [_, _], _ => rfl», one _ a parameter -/
theorem Fun.binds {x qual : Str} {st : Stmt} {f : Addr} {fd : FuncData} {ps : List Str} (F : Fun K x qual st f fd)
    (h : ∀ (kV doc pm : Value) (an : Option Addr) (cdv ct : Value) (us : List Value), us.length = ps.length → bindArgs (PySem.W.fnOf x qual (defArgs st) (defBody st) (defScope st) .none kV doc pm an cdv ct) ⟨us, []⟩ = pure (ps.zip us)) : Binds K fd ps [] := by
  obtain ⟨oc, od, kV, doc, pm, an, cdv, ct, osl, rfl, lk, hcd⟩ := F.ex
  exact .all (h kV doc pm an cdv ct)
theorem fun_mk {x qual : Str} {st : Stmt} {f : Addr} {oc : Value} {od an : Option Addr} {osl : Array (Option Value)} {kV doc pm cdv ct : Value} (l : K.lookup f = some ⟨oc, od, .func (PySem.W.fnOf x qual (defArgs st) (defBody st) (defScope st) .none kV doc pm an cdv ct), osl⟩)
    (c : PySem.W.codeIn K cdv qual = true) (k : PySem.W.keepIn K (.ref f) = true) : Fun K x qual st f (PySem.W.fnOf x qual (defArgs st) (defBody st) (defScope st) .none kV doc pm an cdv ct) := ⟨⟨oc, od, kV, doc, pm, an, cdv, ct, osl, rfl, l, c⟩, k⟩
end
theorem small1000 {n : Nat} (h : n ≤ 1000) : n < sizeLine := Nat.lt_of_le_of_lt h (by decide)

/-! ### expressions in short: the name that stands in the i-th slot -/
section
variable {X : Cx}
theorem pv (i : Nat) {x : Str} {pos : Pos} (hN : X.N[i]? = some x := by rfl) (hv : Vis X.env.scope x := by first | exact Or.inl rfl | exact Or.inr (Or.inl rfl) | exact Or.inr (Or.inr rfl)) (hd : (x == ("__debug__" : Str)) = false := by decide)
    (hcd : (x == ("__classdict__" : Str)) = false := by decide) : PE X (.Name x pos) (tVar i) := pe_var hN hv hd hcd
end

/-! ### tests -/

/-! ### heaps -/
/-- all that was tracked is as it was -/
def Same (H H' : Hp) : Prop := ∀ b o, H b = some o → H' b = some o
theorem Same.trans {H H1 H2 : Hp} (a : Same H H1) (b : Same H1 H2) : Same H H2 := fun c o h => b c o (a c o h)
theorem Same.free {H H' : Hp} (e : Same H H') {l : Addr} (h : H' l = Option.none) : H l = Option.none := by
  cases q : H l with
  | none => rfl
  | some o =>
    rw [e l o q] at h
    cases h

end L2

set_option linter.all false
set_option maxRecDepth 100000
set_option maxHeartbeats 4000000
namespace L2
open PySem PySem.Spec PyProof.Rows
/-! wider rules of one's own over the layer -/
/-- so many bits at the most -/
def Bd (n : Nat) (i : Int) : Prop := i.natAbs < 2 ^ n
theorem Bd.mono {m n : Nat} {i : Int} (h : Bd m i) (e : m ≤ n) : Bd n i := Nat.lt_of_lt_of_le h (Nat.pow_le_pow_right (by decide) e)
theorem Bd.log {m : Nat} {i : Int} (h : Bd m i) (hm : 0 < m) : i.natAbs.log2 < m := by
  unfold Bd at h
  by_cases e : i.natAbs = 0
  · rw [e]; simpa using hm
  · exact (Nat.log2_lt e).mpr h
/-- a division that goes by no other module -/
def CDivB (_ j : Int) : Prop := j ≠ 0 ∧ Bd 9000 j
section
variable {X : Cx}
theorem op_mulB : OpR X (binaryOp .Mult) (rI IntMulOk fun i j => .int (i * j)) := opI fun _ _ _ _ _ _ _ hc q => mul_int q hc
theorem op_fdivB : OpR X (binaryOp .FloorDiv) (rI CDivB fun i j => .int (i.fdiv j)) := opI fun _ _ _ _ _ _ _ hc q => floordiv_int hc.1 q (.inl (PyProof.noPylong_of_log2 (hc.2.log (by decide))))
/-- isinstance(x, T), T a type of the language -/
theorem call_isinst : CallR X (.builtin "isinstance") (fun xs H Q => ∃ x n t b, xs = [x, .ty n] ∧ TyOf X.K H x t ∧ PySem.W.kitOne X.K t (.type n) = some b ∧ Q (.bl b) H) := by
  intro pins s σ H xs us Q I r h
  obtain ⟨x, n, t, b, rfl, ty, e, q⟩ := h
  obtain ⟨u, v, rfl, ru, rv⟩ := vals2 r
  cases (show v = Value.type n from rv)
  exact isinst_ok I ru ty e fun tk => ⟨.bl b, H, I.tok _, rfl, q⟩
theorem kit_same {K : PySem.W.Frag} {n : String} : PySem.W.kitOne K (.type n) (.type n) = some true := by
  unfold PySem.W.kitOne; rw [if_pos (beq_self_eq_true _)]
/-- all(xs), any(xs) of bools -/
theorem boolsAre_of : ∀ {bs : List Bool} {us : List Value}, Vals (bs.map V.bl) us → PyProof.Rows.LSm.BoolsAre us bs := by
  intro bs
  induction bs with
  | nil => intro us h; cases h; exact .nil
  | cons b bs ih =>
    intro us h
    cases h with
    | cons r t =>
      cases (show _ = Value.bool b from r)
      exact .cons _ (ih t)
theorem call_all (hc : X.calm = true) : CallR X (.builtin "all") (fun xs H Q => ∃ (p : Addr) (bs : List Bool), xs = [.ref p] ∧ SqL X.K H p (bs.map V.bl) ∧ Q (.bl (bs.all id)) H) := by
  intro pins s σ H xs us Q I r h
  obtain ⟨p, bs, rfl, hq, q⟩ := h
  obtain ⟨u, rfl, ru⟩ := vals1 r
  cases ru
  obtain ⟨vs, rv, pl, hz⟩ := I.list hq
  have hl := pl.isList
  have hb := boolsAre_of rv
  have hh : X.A.handled = none := I.ok.hd hc
  have hlt : p < s.heap.objs.size := by obtain ⟨_, e, _⟩ := hl; exact Heap.lt_size e
  have W := Walks.list (A := X.A.in1) (prog := X.prog) (w := X.w) hh s.heap.objs.size p (Nat.ne_of_lt hlt) vs.toArray
  have tr : ∀ (i : Nat) (v : Value) (s' : Shared) (Q' : Bool → Shared → Prop) (E' : Value → Shared → Prop), vs.toArray[i]? = some v → Q' ((bs[i]?).getD true) s' → wpAny (model X.prog X.w) X.A.in1 (truthy v) Q' E' s' := fun i v s' Q' E' e q' => by
    obtain ⟨b, e2, rfl⟩ := hb.get i v (by simpa using e)
    rw [e2] at q'
    exact wpAny_truthy_bool q'
  have tot : ((List.range vs.toArray.size).all fun i => (bs[i]?).getD true) = bs.all id := by
    rw [List.size_toArray, hb.length]
    exact PyProof.Rows.LSm.range_all bs
  exact call_all_walk (wpAny_pyIter_list hl ⟨_, _, _, _, _, _, fun i => (bs[i]?).getD true, rfl, W, ⟨⟨_, Heap.get?_push_size _ rfl, rfl, rfl⟩, hl.push _⟩, tr, fun h' tk hk => by
    rw [tot]
    exact ⟨.bl _, H, I.kept (PyProof.Rows.LSm.kept_iter hk), rfl, q⟩⟩)
end
/-! ### == of tuples and lists of data -/
end L2

set_option linter.all false
set_option maxRecDepth 100000
set_option maxHeartbeats 4000000
namespace L2
open PySem PySem.Spec PyProof.Rows
/-! ### a comprehension -/
/-- the context of its block -/
def blk (X : Cx) (N' : List Str) (scope : Scope) (cl : List (Str × Addr)) (C : Addr) (fp : List Addr) (s0 : Shared) (H0 : Hp) : Cx :=
  { X with N := N', s₀ := s0, H₀ := H0, env := compEnvC scope cl C X.env, outer := X.stack, stack := X.stack, ex := fp, fn := fun _ => false, pn := [], xe := fun _ _ => False }
/-- what was known of the slots is known -/
def KeepS (a b : St) : Prop := b.length = a.length ∧ ∀ (i : Nat) v, a[i]? = some (some v) → b[i]? = some (some v)
theorem KeepS.none1 {v : Option V} : KeepS [none] [v] := ⟨rfl, fun i w h => by
  cases i with
  | zero => cases h
  | succ i => simp at h⟩
theorem KeepS.cons {a b : St} (h : KeepS a b) (v : Option V) : KeepS (none :: a) (v :: b) := ⟨by simp [h.1], fun i w e => by
  cases i with
  | zero => cases e
  | succ i => simpa using h.2 i w (by simpa using e)⟩
theorem KeepS.refl (a : St) : KeepS a a := ⟨rfl, fun _ _ h => h⟩
def tComp (wi : TI) (fr : St → St) (g : TG) (te : TE) : TE := fun σ H Q => wi σ H fun J H1 => ∀ D, H1 D = none → ∃ W : Nat → Nat → List V → Hp → Prop, (∃ m, W 0 m [] (upd H1 D (.lst []))) ∧
  ∀ i m ys H2, W i m ys H2 → (J.stop i H2 ∧ Q (.ref D) H2) ∨ (J.go i H2 ∧ ys.length < sizeLine ∧ ∀ x H3, J.yld i H2 x H3 → g x (fr σ) H3 fun σ2 H3' => KeepS (fr σ) σ2 ∧ te σ2 H3' fun y H4 =>
    H4 D = some (.lst ys) ∧ ∃ m', m' < m ∧ W (i + 1) m' (ys ++ [y]) (upd H4 D (.lst (ys ++ [y]))))
section
variable {X : Cx}
theorem blk_ok {pins : List (Addr × Obj)} {σ : St} {H : Hp} {s : Shared} {N' : List Str} {scope : Scope} {cl : List (Str × Addr)} {fp : List Addr} (I : Inv X pins σ H s) (hkind : scope.kind = .function)
    (hcl : ∀ y c, cl.lookup y = some c → X.env.cells.lookup y = some c) (hhas : ∀ y, ((relabel scope X.env).names.lookup y = some .cell ∨ (relabel scope X.env).names.lookup y = some .free) → ∃ c, cl.lookup y = some c)
    (hf : ∀ b ∈ fp, FpOk X pins H b) (hlt : ∀ b ∈ fp, b < s.heap.objs.size) : (blk X N' scope cl s.heap.objs.size fp s H).Ok where
  mod := I.ok.mod
  kind := by simp [blk, compEnvC, relabel, hkind]
  glob := I.ok.glob
  blt := I.ok.blt
  above := Nat.le_refl _
  inj := fun x y c h1 h2 => I.ok.inj x y c (hcl x c h1) (hcl y c h2)
  has := fun x h => hhas x h
  cab := fun x c h => nomatch h
  hd := I.ok.hd
  frames := I.ok.frames
  stk := .inl rfl
  exf := fun b hb => ⟨Nat.ne_of_lt (hlt b hb), fun x c e => (hf b hb).2.2.2.2.1 x c (hcl x c e)⟩
  bs := I.bs
  bsz := Nat.le_trans I.ok.bsz I.sz
  noex := fun b o e hb => by
    rcases (hf b hb).2.2.2.1 with z | z
    · exact I.ok.noex b o e z
    · exact absurd (Nat.lt_of_lt_of_le (Heap.lt_size e) (Nat.le_trans I.ok.bsz z)) (Nat.lt_irrefl _)
  exfs := fun b hb z => by
    rcases List.mem_cons.mp (I.stkSub b z) with e | e
    · exact (hf b hb).2.1 e
    · exact (hf b hb).2.2.1 e
  funs := I.stack
  frf := I.stkFree
theorem pe_lcomp {tg elt iter : Expr} {scope : Scope} {cl : List (Str × Addr)} {pos : Pos} {N' : List Str} {wi : TI} {fr : St → St} {g : TG} {te : TE}
    (hc : X.calm = true) (hi : PI X tg iter wi)
    (hg : ∀ C fp s0 H0, PG (blk X N' scope cl C fp s0 H0) tg g) (he : ∀ C fp s0 H0, PE (blk X N' scope cl C fp s0 H0) elt te)
    (hclos : closureFor scope X.env = pure cl) (hkind : scope.kind = .function) (hnames : ∀ x ∈ scope.names, x.2 = .local → scope.names.lookup x.1 = some .local) (hcell : ∀ y ∈ scope.names, y.2 ≠ .cell)
    (hcl : ∀ y c, cl.lookup y = some c → X.env.cells.lookup y = some c) (hhas : ∀ y, ((relabel scope X.env).names.lookup y = some .cell ∨ (relabel scope X.env).names.lookup y = some .free) → ∃ c, cl.lookup y = some c)
    (hfl : ∀ σ : St, σ.length = X.N.length → (fr σ).length = N'.length)
    (hfr : ∀ (σ : St) (i : Nat) (y : Str) (v : V), N'[i]? = some y → (fr σ)[i]? = some (some v) → ∃ j : Nat, X.N[j]? = some y ∧ σ[j]? = some (some v) ∧ X.env.kindOf y = some .cell ∧ (relabel scope X.env).names.lookup y = some .cell)
    (hs : ∀ x, foldedSetIterable iter X.env x = pure x := by intro _; rfl) :
    PE X (.ListComp elt [⟨tg, iter, [], 0⟩] scope pos) (tComp wi fr g te) := by
  intro pins s σ H Q I h
  rw [eval_ListComp]
  refine wpAny_comprehension_free (use := none) rfl hs hclos hkind hnames ?_
  refine thn (hi pins s σ H _ I h) fun v s1 h1 => thn h1 fun itv s2 h2 => ?_
  obtain ⟨it, fp, tn, J, H2, rfl, I2, T, st2, f2, q2⟩ := h2
  have D0 : H2 s2.heap.objs.size = none := I2.hok.fresh (Nat.le_refl _)
  obtain ⟨W, ⟨m0, w0⟩, turn⟩ := q2 _ D0
  refine wpAny_newObj_type (wpAny_newFunctionEnv hcell (by intro y hy; simp at hy) (fun h₁ hns₁ hsb₁ => ?_) hkind)
  dsimp only at hns₁ hsb₁ ⊢
  have I3 : Inv X pins σ (upd H2 s2.heap.objs.size (.lst [])) { s2 with heap := s2.heap.push { cls := .type "list", dict := none, data := .seq ([] : List Value).toArray } } :=
    I2.laid (t' := s2.toks) (fun b u e => Heap.get?_push_of_some _ e) (Nat.le_refl _) ⟨Nat.zero_le _, [], _, .nil, Heap.get?_push_size _ rfl⟩
  generalize hH3 : upd H2 s2.heap.objs.size (.lst []) = H3 at I3 w0
  generalize hs3 : ({ s2 with heap := s2.heap.push { cls := .type "list", dict := none, data := .seq ([] : List Value).toArray } } : Shared) = s3 at I3
  have eh : s3.heap = s2.heap.push { cls := .type "list", dict := none, data := .seq ([] : List Value).toArray } := by rw [← hs3]
  have fl : ∀ b ∈ fp, b < s2.heap.objs.size := fun b hb => by
    obtain ⟨o, e, _⟩ := T.obj 0 _ st2 b hb
    exact Heap.lt_size e
  have fn : ∀ b ∈ fp, H3 b = none := fun b hb => by
    rw [← hH3, upd_ne (Nat.ne_of_lt (fl b hb))]; exact (f2 b hb).1
  have f3 : ∀ b ∈ fp, FpOk X pins H3 b := fun b hb => ⟨fn b hb, (f2 b hb).2⟩
  have old : ∀ b u, s3.heap.get? b = some u → h₁.get? b = some u := fun b u e => by
    refine hsb₁.extBut b u ?_ (Heap.get?_push_of_some _ (by rw [← eh]; exact e))
    have := Heap.lt_size e
    rw [eh] at this
    exact Nat.ne_of_lt this
  have up : ∀ b u, s2.heap.get? b = some u → s3.heap.get? b = some u := fun b u e => by rw [eh]; exact Heap.get?_push_of_some _ e
  have ok := blk_ok (N' := N') (scope := scope) (cl := cl) (fp := fp) I3 hkind hcl hhas f3 fun b hb => by rw [eh, Heap.size_push]; exact Nat.lt_succ_of_lt (fl b hb)
  rw [← eh] at hns₁ ⊢
  have IB : Inv (blk X N' scope cl s3.heap.objs.size fp s3 H3) [] (fr σ) H3 { s3 with heap := h₁, toks := s2.toks + ([] : List (Str × Value)).length } := by
    refine ⟨ok, rfl, I3.bare, Un.kept old, ⟨_, hns₁, fun i y v e1 e2 e3 => ?_⟩, fun x c e => ?_, I3.hok.fresh (Nat.le_refl _), fun x c e => I3.freeC x c (hcl x c e), fun p hp => by simp [blk] at hp, I3.hok.kept old, hfl σ I3.len⟩
    · obtain ⟨j, n1, n2, n3, n4⟩ := hfr σ i y v e1 e2
      obtain ⟨m, _, hl⟩ := I3.loc
      obtain ⟨u, r, l⟩ := hl j y v n1 n2 (.inr (.inl n3))
      refine ⟨u, r, .inr ⟨.inl n4, ?_⟩⟩
      rcases l with ⟨k, _⟩ | ⟨_, c, e, ic⟩
      · rw [n3] at k; cases k
      · obtain ⟨c', e'⟩ := hhas y (.inl n4)
        have e'' := hcl y c' e'
        rw [e] at e''; cases e''
        obtain ⟨o, ho, hd⟩ := ic
        exact ⟨c, e', o, old c o ho, hd⟩
    · obtain ⟨v, o, ho, hd⟩ := I3.cell x c (hcl x c e)
      exact ⟨v, o, old c o ho, hd⟩
  have stB : tn 0 h₁ := T.keep _ _ _ st2 fun b hb o e => old b o (up b o e)
  have D2 : s2.heap.objs.size < s3.heap.objs.size := by rw [eh, Heap.size_push]; exact Nat.lt_succ_self _
  have stat : ∀ {H' : Hp}, (∀ b ∈ fp, H' b = none) → ∀ b ∈ fp, FpOk (blk X N' scope cl s3.heap.objs.size fp s3 H3) [] H' b := fun hn b hb =>
    ⟨hn b hb, Nat.ne_of_lt (Nat.lt_trans (fl b hb) D2), ok.exfs b hb, .inl hb, fun x c e => (ok.exf b hb).2 x c e, fun p hp => by simp [blk] at hp⟩
  have loop : codeAny (model X.prog X.w) X.A (.compLoop (.ListComp elt [⟨tg, iter, [], 0⟩] scope pos) 0 (.ref it) (.ref s2.heap.objs.size) (compEnvC scope cl s3.heap.objs.size X.env))
      (compPost (model X.prog X.w) X.A X.xe none (EP X pins σ Q) (.ref s2.heap.objs.size) s3.heap.objs.size) { s3 with heap := h₁, toks := s2.toks + ([] : List (Str × Value)).length } := by
    refine codeAny_loop rfl (fun n s' => ∃ i ys H', Inv (blk X N' scope cl s3.heap.objs.size fp s3 H3) [] (fr σ) H' s' ∧ tn i s'.heap ∧ (∀ b ∈ fp, H' b = none) ∧ W i n ys H') ?_ m0 ⟨0, [], H3, IB, stB, fn, w0⟩
    rintro n s4 ⟨i, ys, H4, I4, st4, fr4, w4⟩
    show wpAny _ _ ((compTurn (.ListComp elt [⟨tg, iter, [], 0⟩] scope pos) 0 (.ref it) (.ref s2.heap.objs.size) (compEnvC scope cl s3.heap.objs.size X.env)).onRaise (fun x => do noteFrame x (compEnvC scope cl s3.heap.objs.size X.env); theTreesLotGoes x)) _ _ s4
    refine wpAny_noted ?_
    rw [compTurn_list1]
    refine wpAny_bind (wpAny_standAt (wpAny_bind ?_))
    rcases turn i n ys H4 w4 with ⟨stop, qn⟩ | ⟨go, hz, step⟩
    · refine thn (T.done (blk X N' scope cl s3.heap.objs.size fp s3 H3) rfl rfl rfl hc i [] s4 (fr σ) H4 _ I4 (stat fr4) st4 stop) fun r s5 ⟨hr, I5⟩ => ?_
      subst hr
      refine wpAny_pure ?_
      obtain ⟨m, hn, _⟩ := I5.loc
      refine ⟨m, hn, fun h' sb => ⟨.ref s2.heap.objs.size, H4, ?_, rfl, qn⟩⟩
      have hb : ∀ b u, b ≠ s3.heap.objs.size → s5.heap.get? b = some u → h'.get? b = some u := fun b u n e => sb.extBut b u n e
      have hlt : ∀ b u, s3.heap.get? b = some u → b ≠ s3.heap.objs.size := fun b u e => Nat.ne_of_lt (Heap.lt_size e)
      have B := I5.base
      refine I3.call' (s' := { s5 with heap := h' }) (ch := fp) I5.os ⟨fun b o e n1 n2 n3 => hb b o (hlt b o e) (B.keep b o e n1 n2 n3), fun b o e n1 n2 n3 => ?_, B.free, fun b o e n1 => ?_, B.tups, B.frzs, B.tbls⟩ (fun a o e => ?_) I5.bare (fun b hb' => ?_)
      · obtain ⟨sl, z⟩ := B.slot b o e n1 n2 n3
        exact ⟨sl, hb b _ (hlt b o e) z⟩
      · obtain ⟨o', z⟩ := B.there b o e n1
        exact ⟨o', hb b _ (hlt b o e) z⟩
      · have nC : ∀ c u, H4 c = some u → c ≠ s3.heap.objs.size := fun c u z w => by
          have := I5.free
          rw [show (blk X N' scope cl s3.heap.objs.size fp s3 H3).env.locals = s3.heap.objs.size from rfl, ← w, z] at this
          cases this
        refine (I5.hok a o e).stay (fun c u hcu q => hb c u ?_ q) (fun _ q => q) fun _ _ q => q
        rcases hcu with z | z
        · rw [z]; exact nC a o e
        · exact nC c _ z
      · exact ⟨(f2 b hb').2.2.2.1, (f2 b hb').2.1, (f2 b hb').2.2.2.2.1, (f2 b hb').2.2.2.2.2⟩
    · refine thn (T.item (blk X N' scope cl s3.heap.objs.size fp s3 H3) rfl rfl rfl hc i [] s4 (fr σ) H4 _ I4 (stat fr4) st4 go) fun r s5 ⟨u, hr, h5⟩ => ?_
      subst hr
      refine wpAny_bind (thn h5 fun _ s6 ⟨x, H6, I6, r6, y6, st6, fr6⟩ => ?_)
      have I6' := I6.pinned (stat fr6) (T.obj _ _ st6)
      refine wpAny_bind (wpAny_mono (hg s3.heap.objs.size fp s3 H3 _ s6 (fr σ) H6 x u _ I6' r6 (step x H6 y6)) (fun _ s7 ⟨σ7, H7, I7, kp, q7⟩ => ?_) fun _ _ z => z.elim)
      refine wpAny_bind (wpAny_bind (wpAny_mono (he s3.heap.objs.size fp s3 H3 _ s7 σ7 H7 _ I7 q7) (fun v8 s8 ⟨y8, H8, I8, r8, hD, m', hm, w8⟩ => ?_) fun _ _ z => z.elim))
      have ap := mt_append (X := blk X N' scope cl s3.heap.objs.size fp s3 H3) _ s8 σ7 H8 (.ref s2.heap.objs.size) [y8] (.ref s2.heap.objs.size) [v8] (fun _ H9 => W (i + 1) m' (ys ++ [y8]) H9) I8 rfl (.cons r8 .nil) ⟨_, ys, y8, rfl, rfl, hD, hz, w8⟩
      refine wpAny_bind (wpAny_mono ap (fun _ s9 ⟨_, H9, I9, _, w9⟩ => wpAny_pure (wpAny_pure ⟨rfl, m', hm, i + 1, ys ++ [y8], H9, ?_, ?_, ?_, w9⟩)) fun _ _ z => z.elim)
      · exact I9.unpinned.weak (by rw [kp.1]) kp.2
      · exact T.keep _ _ _ st6 fun b hb o e => (I9.pin (b, o) (List.mem_append_right _ (List.mem_append_right _ (mem_pinsAt hb e)))).1
      · intro b hb
        obtain ⟨o, e, d⟩ := T.obj _ _ st6 b hb
        exact (I9.pin (b, o) (List.mem_append_right _ (List.mem_append_right _ (mem_pinsAt hb e)))).2.1
  subst hs3
  exact codeAny_compStart_list loop (T.self X.A 0 _ _ _ stB loop)
end
end L2

set_option linter.all false
set_option maxRecDepth 100000
set_option maxHeartbeats 4000000
namespace L2
open PySem PySem.Spec PyProof.Rows
/-! ### readings by what they give -/
def Gv (t : TE) (σ : St) (H : Hp) (R : V → Hp → Prop) : Prop := ∀ Q : VK, (∀ v H', R v H' → Q v H') → t σ H Q
def GvT (t : TT) (σ : St) (H : Hp) (R : Bool → Hp → Prop) : Prop := ∀ Q : Bool → Hp → Prop, (∀ v H', R v H' → Q v H') → t σ H Q
def GvA (t : TA) (σ : St) (H : Hp) (R : List V → Hp → Prop) : Prop := ∀ Q : List V → Hp → Prop, (∀ v H', R v H' → Q v H') → t σ H Q
/-- one value, the heap as it is -/
def Pu (t : TE) (σ : St) (H : Hp) (v : V) : Prop := ∀ Q : VK, Q v H → t σ H Q
def PuT (t : TT) (σ : St) (H : Hp) (b : Bool) : Prop := ∀ Q : Bool → Hp → Prop, Q b H → t σ H Q
def PuA (t : TA) (σ : St) (H : Hp) (vs : List V) : Prop := ∀ Q : List V → Hp → Prop, Q vs H → t σ H Q
def Is1 (v : V) (H : Hp) : V → Hp → Prop := fun w H' => w = v ∧ H' = H
section
variable {σ : St} {H : Hp} {t ta tb tc : TE} {x y z v : V} {i j : Int} {b c : Bool}
theorem Pu.gv (h : Pu t σ H v) : Gv t σ H (Is1 v H) := fun Q q => h Q (q v H ⟨rfl, rfl⟩)
theorem Pu.gv' {R : V → Hp → Prop} (h : Pu t σ H v) (r : R v H) : Gv t σ H R := fun Q q => h Q (q v H r)
theorem Gv.imp {R R' : V → Hp → Prop} (h : Gv t σ H R) (f : ∀ v H', R v H' → R' v H') : Gv t σ H R' := fun Q q => h Q fun v H' r => q v H' (f v H' r)
theorem pu_v {k : Nat} (h : σ[k]? = some (some v)) : Pu (tVar k) σ H v := fun _ q => ⟨v, h, q⟩
theorem pu_c : Pu (tC v) σ H v := fun _ q => q
theorem pu_add (ha : Pu ta σ H (.int i)) (hb : Pu tb σ H (.int j)) : Pu (tOp (rI0 fun i j => .int (i + j)) ta tb) σ H (.int (i + j)) := fun _ q => ha _ (hb _ ⟨i, j, rfl, rfl, q⟩)
theorem pu_sub (ha : Pu ta σ H (.int i)) (hb : Pu tb σ H (.int j)) : Pu (tOp (rI0 fun i j => .int (i - j)) ta tb) σ H (.int (i - j)) := fun _ q => ha _ (hb _ ⟨i, j, rfl, rfl, q⟩)
theorem pu_mul (ha : Pu ta σ H (.int i)) (hb : Pu tb σ H (.int j)) (hm : IntMulOk i j) : Pu (tOp (rI IntMulOk fun i j => .int (i * j)) ta tb) σ H (.int (i * j)) := fun _ q => ha _ (hb _ ⟨i, j, rfl, rfl, hm, q⟩)
theorem pu_fdiv (ha : Pu ta σ H (.int i)) (hb : Pu tb σ H (.int j)) (hm : CDivB i j) : Pu (tOp (rI CDivB fun i j => .int (i.fdiv j)) ta tb) σ H (.int (i.fdiv j)) := fun _ q => ha _ (hb _ ⟨i, j, rfl, rfl, hm, q⟩)
theorem pu_mod (ha : Pu ta σ H (.int i)) (hb : Pu tb σ H (.int j)) (hm : j ≠ 0) : Pu (tOp (rI (fun _ j => j ≠ 0) fun i j => .int (i.fmod j)) ta tb) σ H (.int (i.fmod j)) := fun _ q => ha _ (hb _ ⟨i, j, rfl, rfl, hm, q⟩)
theorem pu_pow (ha : Pu ta σ H (.int i)) (hb : Pu tb σ H (.int j)) (hm : CPow i j) : Pu (tOp (rI CPow fun i j => .int (i ^ j.toNat)) ta tb) σ H (.int (i ^ j.toNat)) := fun _ q => ha _ (hb _ ⟨i, j, rfl, rfl, hm, q⟩)
theorem pu_neg (ha : Pu ta σ H (.int i)) : Pu (tUn (rU fun i => .int (-i)) ta) σ H (.int (-i)) := fun _ q => ha _ ⟨i, rfl, q⟩
theorem pu_lt (ha : Pu ta σ H (.int i)) (hb : Pu tb σ H (.int j)) : Pu (tOp (rI0 fun i j => .bl (decide (i < j))) ta tb) σ H (.bl (decide (i < j))) := fun _ q => ha _ (hb _ ⟨i, j, rfl, rfl, q⟩)
theorem pu_gt (ha : Pu ta σ H (.int i)) (hb : Pu tb σ H (.int j)) : Pu (tOp (rI0 fun i j => .bl (decide (j < i))) ta tb) σ H (.bl (decide (j < i))) := fun _ q => ha _ (hb _ ⟨i, j, rfl, rfl, q⟩)
theorem pu_ge (ha : Pu ta σ H (.int i)) (hb : Pu tb σ H (.int j)) : Pu (tOp (rI0 fun i j => .bl (decide (j ≤ i))) ta tb) σ H (.bl (decide (j ≤ i))) := fun _ q => ha _ (hb _ ⟨i, j, rfl, rfl, q⟩)
theorem pu_eqI (ha : Pu ta σ H (.int i)) (hb : Pu tb σ H (.int j)) : Pu (tOp rEq ta tb) σ H (.bl (decide (i = j))) := fun _ q => ha _ (hb _ ⟨rfl, by rw [dec_int, Bool.beq_eq_decide_eq]; exact q⟩)
theorem pu_neI (ha : Pu ta σ H (.int i)) (hb : Pu tb σ H (.int j)) : Pu (tOp rNe ta tb) σ H (.bl (!decide (i = j))) := fun _ q => ha _ (hb _ ⟨rfl, by rw [dec_int, Bool.beq_eq_decide_eq]; exact q⟩)
theorem pu_ixT {K : PySem.W.Frag} {p : Addr} {xs : List V} (ha : Pu ta σ H (.ref p)) (hb : Pu tb σ H (.int i)) (h : SqT K H p xs) (e : atI xs i = some v) : Pu (tOp (rIxT K) ta tb) σ H v := fun _ q => ha _ (hb _ ⟨p, xs, i, v, rfl, rfl, h, e, q⟩)
theorem pu_ixL {K : PySem.W.Frag} {p : Addr} {xs : List V} (ha : Pu ta σ H (.ref p)) (hb : Pu tb σ H (.int i)) (h : SqL K H p xs) (e : atI xs i = some v) : Pu (tOp (rIxL K) ta tb) σ H v := fun _ q => ha _ (hb _ ⟨p, xs, i, v, rfl, rfl, h, e, q⟩)
theorem pa_n : PuA tNil σ H [] := fun _ q => q
theorem pa_c {tr : TA} {vs : List V} (ha : Pu ta σ H x) (hr : PuA tr σ H vs) : PuA (tCons ta tr) σ H (x :: vs) := fun _ q => ha _ (hr _ q)
theorem pu_lenL {K : PySem.W.Frag} {p : Addr} {ys : List V} {t : TA} (ha : PuA t σ H [.ref p]) (h : SqL K H p ys) : Pu (tCB (fun xs H Q => ∃ p ys, xs = [.ref p] ∧ (SqL K H p ys ∨ SqT K H p ys) ∧ Q (.int ys.length) H) t) σ H (.int ys.length) := fun _ q => ha _ ⟨p, ys, rfl, .inl h, q⟩
theorem pu_lenT {K : PySem.W.Frag} {p : Addr} {ys : List V} {t : TA} (ha : PuA t σ H [.ref p]) (h : SqT K H p ys) : Pu (tCB (fun xs H Q => ∃ p ys, xs = [.ref p] ∧ (SqL K H p ys ∨ SqT K H p ys) ∧ Q (.int ys.length) H) t) σ H (.int ys.length) := fun _ q => ha _ ⟨p, ys, rfl, .inr h, q⟩
theorem pu_abs {t : TA} (ha : PuA t σ H [.int i]) : Pu (tCB (fun xs H Q => ∃ i, xs = [.int i] ∧ Q (.int (if i < 0 then -i else i)) H) t) σ H (.int (i.natAbs : Int)) := fun _ q => ha _ ⟨i, rfl, by
  rw [show (if i < 0 then -i else i) = (i.natAbs : Int) by split <;> omega]; exact q⟩
theorem pu_isi {K : PySem.W.Frag} {n : String} {u : Value} {t : TA} (ha : PuA t σ H [x, .ty n]) (ty : TyOf K H x u) (e : PySem.W.kitOne K u (.type n) = some b) :
    Pu (tCB (fun xs H Q => ∃ x n t b, xs = [x, .ty n] ∧ TyOf K H x t ∧ PySem.W.kitOne K t (.type n) = some b ∧ Q (.bl b) H) t) σ H (.bl b) := fun _ q => ha _ ⟨x, n, u, b, rfl, ty, e, q⟩
/-! tests -/
theorem pt_t (h : Pu t σ H (.bl b)) : PuT (tTest t) σ H b := fun _ q => h _ ⟨b, rfl, q⟩
theorem pt_b (h : Pu t σ H (.bl b)) : PuT (tB t) σ H b := fun _ q => h _ ⟨b, rfl, q⟩
theorem pt_n {t : TT} (h : PuT t σ H b) : PuT (tNot t) σ H (!b) := fun _ q => h _ q
theorem pt_and {t u : TT} (h : PuT t σ H b) (g : b = true → PuT u σ H c) : PuT (tAnd t u) σ H (b && c) := fun Q q => h _ (by
  cases b with
  | true => rw [if_pos rfl]; exact g rfl Q (by simpa using q)
  | false => rw [if_neg Bool.false_ne_true]; simpa using q)
theorem pt_or {t u : TT} (h : PuT t σ H b) (g : b = false → PuT u σ H c) : PuT (tOr t u) σ H (b || c) := fun Q q => h _ (by
  cases b with
  | false => rw [if_neg Bool.false_ne_true]; exact g rfl Q (by simpa using q)
  | true => rw [if_pos rfl]; simpa using q)
theorem pu_and (h : Pu ta σ H (.bl b)) (g : b = true → Pu tb σ H (.bl c)) : Pu (tAndV ta tb) σ H (.bl (b && c)) := fun Q q => h _ ⟨b, rfl, by
  cases b with
  | true => rw [if_pos rfl]; exact g rfl Q (by simpa using q)
  | false => rw [if_neg Bool.false_ne_true]; simpa using q⟩
theorem pu_not (h : Pu ta σ H (.bl b)) : Pu (tNotV ta) σ H (.bl (!b)) := fun _ q => h _ ⟨b, rfl, q⟩
/-! tests with calls that lay things -/
theorem gt_or {t u : TT} {R R' : Bool → Hp → Prop} (h : GvT t σ H R) (g : ∀ H', R false H' → GvT u σ H' R') (e : ∀ H', R true H' → R' true H') : GvT (tOr t u) σ H R' := fun Q q => h _ fun v H' r => by
  cases v with
  | false => rw [if_neg Bool.false_ne_true]; exact g H' r Q q
  | true => rw [if_pos rfl]; exact q _ _ (e H' r)
theorem PuT.gt {t : TT} {R : Bool → Hp → Prop} (h : PuT t σ H b) (r : R b H) : GvT t σ H R := fun Q q => h Q (q _ _ r)
/-! statements -/
variable {te : TE} {D : Ends} {rest u : TS} {k : Nat}
theorem st_set (h : Pu te σ H v) (q : rest D (σ.set k (some v)) H) : tSeq (tAsg te (gName k)) rest D σ H := h _ q
theorem st_setG {R : V → Hp → Prop} (h : Gv te σ H R) (q : ∀ v H', R v H' → rest D (σ.set k (some v)) H') : tSeq (tAsg te (gName k)) rest D σ H := h _ q
theorem st_set1 (h : Pu te σ H v) (q : D.nx (σ.set k (some v)) H) : tAsg te (gName k) D σ H := h _ q
theorem st_setG1 {R : V → Hp → Prop} (h : Gv te σ H R) (q : ∀ v H', R v H' → D.nx (σ.set k (some v)) H') : tAsg te (gName k) D σ H := h _ q
theorem st_ret (h : Pu te σ H v) (q : D.rt v H) : tRet te D σ H := h _ q
theorem st_retG {R : V → Hp → Prop} (h : Gv te σ H R) (q : ∀ v H', R v H' → D.rt v H') : tRet te D σ H := h _ q
theorem st_exprG {R : V → Hp → Prop} (h : Gv te σ H R) (q : ∀ v H', R v H' → rest D σ H') : tSeq (tDrop te) rest D σ H := h _ q
theorem st_exprG1 {R : V → Hp → Prop} (h : Gv te σ H R) (q : ∀ v H', R v H' → D.nx σ H') : tDrop te D σ H := h _ q
theorem st_if {tc : TT} {t u : TS} (h : PuT tc σ H b) (q1 : b = true → t { D with nx := rest D } σ H) (q2 : b = false → u { D with nx := rest D } σ H) : tSeq (tIfS tc t u) rest D σ H := h _ (by
  cases b with
  | true => rw [if_pos rfl]; exact q1 rfl
  | false => rw [if_neg Bool.false_ne_true]; exact q2 rfl)
theorem st_if1 {tc : TT} {t u : TS} (h : PuT tc σ H b) (q1 : b = true → t D σ H) (q2 : b = false → u D σ H) : tIfS tc t u D σ H := h _ (by
  cases b with
  | true => rw [if_pos rfl]; exact q1 rfl
  | false => rw [if_neg Bool.false_ne_true]; exact q2 rfl)
theorem st_ifG {tc : TT} {t u : TS} {R : Bool → Hp → Prop} (h : GvT tc σ H R) (q1 : ∀ H', R true H' → t { D with nx := rest D } σ H') (q2 : ∀ H', R false H' → u { D with nx := rest D } σ H') : tSeq (tIfS tc t u) rest D σ H := h _ fun b H' r => by
  cases b with
  | true => rw [if_pos rfl]; exact q1 H' r
  | false => rw [if_neg Bool.false_ne_true]; exact q2 H' r
theorem st_ifG1 {tc : TT} {t u : TS} {R : Bool → Hp → Prop} (h : GvT tc σ H R) (q1 : ∀ H', R true H' → t D σ H') (q2 : ∀ H', R false H' → u D σ H') : tIfS tc t u D σ H := h _ fun b H' r => by
  cases b with
  | true => rw [if_pos rfl]; exact q1 H' r
  | false => rw [if_neg Bool.false_ne_true]; exact q2 H' r
/-! calls -/
variable {sp : Sp} {E : XK}
theorem pu_call {t : TA} {vs : List V} (h : PuA t σ H vs) (hs : ∀ Q, Q v H → sp (vs ++ []) H Q E) : Pu (tCall sp [] E t) σ H v := fun Q q => h _ (hs Q q)
theorem gv_call {t : TA} {vs : List V} {R : V → Hp → Prop} (h : PuA t σ H vs) (hs : ∀ Q : VK, (∀ v H', R v H' → Q v H') → sp (vs ++ []) H Q E) : Gv (tCall sp [] E t) σ H R := fun Q q => h _ (hs Q q)
theorem gv_callA {t : TA} {R : V → Hp → Prop} {RA : List V → Hp → Prop} (h : GvA t σ H RA) (hs : ∀ vs H1, RA vs H1 → ∀ Q : VK, (∀ v H', R v H' → Q v H') → sp (vs ++ []) H1 Q E) : Gv (tCall sp [] E t) σ H R := fun Q q => h _ fun vs H1 r => hs vs H1 r Q q
theorem ga_nil : GvA tNil σ H (fun vs H' => vs = [] ∧ H' = H) := fun Q q => q _ _ ⟨rfl, rfl⟩
theorem ga_cons {tr : TA} {R1 : V → Hp → Prop} {R2 : V → Hp → List V → Hp → Prop} (h : Gv ta σ H R1) (g : ∀ x H1, R1 x H1 → GvA tr σ H1 (R2 x H1)) :
    GvA (tCons ta tr) σ H (fun vs H' => ∃ x H1 r, vs = x :: r ∧ R1 x H1 ∧ R2 x H1 r H') := fun Q q => h _ fun x H1 r1 => g x H1 r1 _ fun r H' r2 => q _ _ ⟨x, H1, r, rfl, r1, r2⟩
/-! new tuples and lists -/
theorem gv_tup {t : TA} {vs : List V} (h : PuA t σ H vs) (hz : vs.length ≤ sizeLine) : Gv (tTup t) σ H (fun v H' => ∃ p, H p = none ∧ v = .ref p ∧ H' = upd H p (.tup vs)) := fun Q q => h _ ⟨hz, fun p hp => q _ _ ⟨p, hp, rfl, rfl⟩⟩
theorem gv_lst {t : TA} {vs : List V} (h : PuA t σ H vs) (hz : vs.length ≤ sizeLine) : Gv (tLst t) σ H (fun v H' => ∃ p, H p = none ∧ v = .ref p ∧ H' = upd H p (.lst vs)) := fun Q q => h _ ⟨hz, fun p hp => q _ _ ⟨p, hp, rfl, rfl⟩⟩
end
/-! ### frames of the heap -/
theorem Same.upd {H : Hp} {p : Addr} {o : HO} (h : H p = none) : Same H (upd H p o) := fun b u e => by rw [upd_ne (ne_of_none e h)]; exact e
/-- all is as it was but at one place -/
def SameB (l : Addr) (H H' : Hp) : Prop := ∀ b o, H b = some o → b ≠ l → H' b = some o
theorem Same.b {H H' : Hp} {l : Addr} (e : Same H H') : SameB l H H' := fun b o h _ => e b o h
theorem SameB.refl (l : Addr) (H : Hp) : SameB l H H := fun _ _ h _ => h
theorem SameB.trans {l : Addr} {H H1 H2 : Hp} (a : SameB l H H1) (b : SameB l H1 H2) : SameB l H H2 := fun c o h n => b c o (a c o h n) n
theorem SameB.upd {l : Addr} {H : Hp} {o : HO} : SameB l H (upd H l o) := fun b u e n => by rw [upd_ne n]; exact e
/-! ### defs -/
structure Fn (K : PySem.W.Frag) (mg : Str → Option Value) (x : Str) (st : Stmt) (f : Addr) (fd : FuncData) (ps : List Str) : Prop where
  F : Fun K x x st f fd
  b : Binds K fd ps []
  m : mg x = some (.ref f)
section
variable {X : Cx} {x : Str} {st : Stmt} {f : Addr} {fd : FuncData} {ps : List Str} {sp : Sp} {k j : Nat} {e : Expr} {es : List Expr} {t : TA} {p pos : Pos}
theorem pe_fn (T : Fn X.K X.mg x st f fd ps) (G : FnOk X.prog X.w X.K X.mg X.base CX0 k f fd ps sp) (hr : Room j X.A) (hj : k ≤ j) (ha : PA X (e :: es) t) (hg : Gl X x := by rfl) (hdb : (x == ("__debug__" : Str)) = false := by decide)
    (he : starEach (e :: es) X.env = (false, eval e X.env) :: starEach es X.env := by rfl) (hpl : (backTo pos (starEach es X.env)).any (·.1) = false := by rfl) : PE X (.Call (.Name x p) (e :: es) [] pos) (tCall sp [] E0 t) :=
  pe_call G (hr.mono hj) hg T.m T.F.kp T.b .nil pass0 ha hdb he hpl
/-- a type's name -/
theorem pe_ty {n : Str} {T : String} {pos : Pos} (hm : X.mg n = none) (hv : bootBuiltins n = some (.type T)) (hg : Gl X n := by rfl) (hn : n ≠ "__name__" := by decide) (hd : (n == ("__debug__" : Str)) = false := by decide) : PE X (.Name n pos) (tC (.ty T)) :=
  pe_bltn hg hm hv rfl hn hd
end
/-! ### the forms one uses -/
end L2

set_option linter.all false
namespace L2
/-! ### lowest terms -/
end L2

set_option linter.all false
namespace L2
/-! ### points of the plane by three numbers -/
end L2

set_option linter.all false
set_option maxRecDepth 100000
set_option maxHeartbeats 4000000
namespace L2
open PySem PySem.Spec PyProof.Rows
section
variable {X : Cx}
def rGetL (K : PySem.W.Frag) : V → V → Hp → VK → Prop := fun x y H Q => ∃ p xs i v, x = .ref p ∧ y = .int i ∧ 0 ≤ i ∧ SqL K H p xs ∧ atI xs i = some v ∧ Q v H
theorem get_list : PGet X (rGetL X.K) := by
  intro pins s σ H x y v u Q I rx ry h
  obtain ⟨p, xs, i, z, rfl, rfl, h0, hq, he, q⟩ := h
  cases rx
  obtain ⟨t, rfl⟩ := ry
  obtain ⟨its, r, pl, hz⟩ := I.list hq
  obtain ⟨j, h1, h2, h3, h4, h5⟩ := atI_get he
  obtain ⟨w, ew, rw'⟩ := r.get h2
  have hn := line63
  have hj : i.toNat = j := by
    rw [seqIndex_of h0 h5] at h1
    exact Option.some.inj h1
  exact wpAny_getItem_list pl.isList h0 (by omega) (by rw [hj]; simpa using ew) ⟨z, H, I, rw', q⟩
end
section
variable {σ : St} {H : Hp} {D : Ends} {rest : TS} {te to ti : TE} {v : V} {p : Addr} {xs : List V} {k i : Int} {j : Nat}
theorem st_put (h : Pu te σ H v) (ho : Pu to σ H (.ref p)) (hi : Pu ti σ H (.int k)) (hp : H p = some (.lst xs)) (hj : ixN xs.length k = some j) (q : rest D σ (upd H p (.lst (xs.set j v)))) : tSeq (tAsg te (gSub to ti rSetL)) rest D σ H :=
  h _ (ho _ (hi _ ⟨p, xs, k, j, rfl, rfl, hp, hj, q⟩))
theorem st_put1 (h : Pu te σ H v) (ho : Pu to σ H (.ref p)) (hi : Pu ti σ H (.int k)) (hp : H p = some (.lst xs)) (hj : ixN xs.length k = some j) (q : D.nx σ (upd H p (.lst (xs.set j v)))) : tAsg te (gSub to ti rSetL) D σ H :=
  h _ (ho _ (hi _ ⟨p, xs, k, j, rfl, rfl, hp, hj, q⟩))
theorem st_augI {K : PySem.W.Frag} {f : Int → Int → Int} {a b : Int} (ho : Pu to σ H (.ref p)) (hi : Pu ti σ H (.int k)) (h0 : 0 ≤ k) (hp : H p = some (.lst xs)) (ha : atI xs k = some (.int a)) (h : Pu te σ H (.int b)) (hj : ixN xs.length k = some j)
    (q : rest D σ (upd H p (.lst (xs.set j (.int (f a b)))))) : tSeq (tAugS to ti te (rGetL K) (ipI f) rSetL) rest D σ H :=
  ho _ (hi _ ⟨p, xs, k, .int a, rfl, rfl, h0, SqL.of hp, ha, h _ ⟨a, b, rfl, rfl, p, xs, k, j, rfl, rfl, hp, hj, q⟩⟩)
theorem st_while {c : TT} {tb : TS} (Pv : St → Hp → Prop) (μ : St → Hp → Nat) (h0 : Pv σ H)
    (hs : ∀ σ H, Pv σ H → ∃ b, PuT c σ H b ∧ (b = true → tb { D with nx := fun σ' H' => Pv σ' H' ∧ μ σ' H' < μ σ H, ct := fun σ' H' => Pv σ' H' ∧ μ σ' H' < μ σ H, bk := rest D } σ H) ∧ (b = false → rest D σ H)) :
    tSeq (tWhile c tb) rest D σ H := by
  refine ⟨fun m σ H => m = μ σ H ∧ Pv σ H, ⟨_, rfl, h0⟩, ?_⟩
  rintro m σ H ⟨rfl, p⟩
  obtain ⟨b, hb, h1, h2⟩ := hs σ H p
  refine hb _ ?_
  cases b with
  | true => rw [if_pos rfl]; exact ⟨_, fun σ' H' ⟨p', l⟩ => ⟨_, l, rfl, p'⟩, h1 rfl⟩
  | false => rw [if_neg Bool.false_ne_true]; exact h2 rfl
theorem st_rangeG {g : TG} {tb : TS} {ta : TA} {R : List V → Hp → Prop} (ha : GvA ta σ H R)
    (hr : ∀ vs H1, R vs H1 → ∃ n : Int, vs = [.int n] ∧ -(2 ^ 62) ≤ n ∧ n < 2 ^ 62 ∧ ∃ Pv : Nat → St → Hp → Prop, Pv 0 σ H1 ∧
    (∀ (i : Nat) σ H, i < n.toNat → Pv i σ H → g (.int (0 + i)) σ H fun σ2 H2 => tb { D with nx := Pv (i + 1), ct := Pv (i + 1), bk := rest D } σ2 H2) ∧ (∀ σ H, Pv n.toNat σ H → rest D σ H)) :
    tSeq (tFor (iRng1 ta) g tb) rest D σ H :=
  ha _ fun vs H1 r => by
    obtain ⟨n, rfl, h1, h2, Pv, h0, hs, hd⟩ := hr vs H1 r
    exact ⟨n, rfl, h1, h2, for_range (D := { D with nx := rest D }) Pv h0 hs hd⟩
end
theorem kit_int_bool {K : PySem.W.Frag} : PySem.W.kitOne K (.type "int") (.type "bool") = some false := by
  unfold PySem.W.kitOne
  rw [if_neg (by decide)]
  show (if PySem.W.kitMeta "bool" = true then (PySem.fastBuiltinMro "int").map (·.contains (Value.type "bool")) else none) = some false
  decide +kernel
theorem Bd.small {i : Int} {n : Nat} (h : i.natAbs < 2 ^ 64 := by decide) (e : 64 ≤ n := by decide) : Bd n i := Bd.mono (m := 64) h e
/-! ### no cell in a block -/
theorem noCells {names : List (Str × NameKind)} {cl : List (Str × Addr)} (h : (names.all fun p => p.2 != .cell && p.2 != .free) = true) : ∀ y, (names.lookup y = some .cell ∨ names.lookup y = some .free) → ∃ c, cl.lookup y = some c := by
  intro y hy
  exfalso
  have key : ∀ (l : List (Str × NameKind)) (k : NameKind), l.lookup y = some k → ∃ p ∈ l, p.2 = k := by
    intro l k
    induction l with
    | nil => intro e; cases e
    | cons p r ih =>
      intro e
      rw [List.lookup_cons] at e
      split at e
      · exact ⟨p, List.mem_cons_self, Option.some.inj e⟩
      · obtain ⟨q, hq, eq⟩ := ih e
        exact ⟨q, List.mem_cons_of_mem _ hq, eq⟩
  rw [List.all_eq_true] at h
  rcases hy with e | e
  · obtain ⟨p, hp, eq⟩ := key _ _ e
    have := h p hp
    rw [eq] at this
    exact absurd this (by decide)
  · obtain ⟨p, hp, eq⟩ := key _ _ e
    have := h p hp
    rw [eq] at this
    exact absurd this (by decide)
/-! ### the greatest common divisor -/
theorem fmod_lt {x y : Int} (h2 : 0 < y) : 0 ≤ x.fmod y ∧ x.fmod y < y := by
  rw [Int.fmod_eq_emod_of_nonneg _ (Int.le_of_lt h2)]
  exact ⟨Int.emod_nonneg _ (by omega), Int.emod_lt_of_pos _ h2⟩
/-! ### more statements -/
section
variable {σ : St} {H : Hp} {D : Ends} {rest : TS} {te : TE} {b : Bool} {k : Nat} {v0 : V}
theorem st_ifN {tc : TT} {t : TS} (h : PuT tc σ H b) (q1 : b = true → t { D with nx := rest D } σ H) (q2 : b = false → rest D σ H) : tSeq (tIfS tc t tNext) rest D σ H := st_if h q1 q2
theorem st_ifNG {tc : TT} {t : TS} {R : Bool → Hp → Prop} (h : GvT tc σ H R) (q1 : ∀ H', R true H' → t { D with nx := rest D } σ H') (q2 : ∀ H', R false H' → rest D σ H') : tSeq (tIfS tc t tNext) rest D σ H := st_ifG h q1 q2
theorem st_ifN1 {tc : TT} {t : TS} (h : PuT tc σ H b) (q1 : b = true → t D σ H) (q2 : b = false → D.nx σ H) : tIfS tc t tNext D σ H := st_if1 h q1 q2
theorem st_ifNG1 {tc : TT} {t : TS} {R : Bool → Hp → Prop} (h : GvT tc σ H R) (q1 : ∀ H', R true H' → t D σ H') (q2 : ∀ H', R false H' → D.nx σ H') : tIfS tc t tNext D σ H := st_ifG1 h q1 q2
theorem st_ifSet {tc : TT} {R : V → Hp → Prop} (hc : PuT tc σ H b) (he : b = true → Gv te σ H R) (h0 : σ.set k (some v0) = σ) (r0 : b = false → R v0 H) (q : ∀ v H', R v H' → rest D (σ.set k (some v)) H') :
    tSeq (tIfS tc (tAsg te (gName k)) tNext) rest D σ H := by
  refine st_if hc (fun e => st_setG1 (he e) q) fun e => ?_
  have := q v0 H (r0 e)
  rw [h0] at this
  exact this
end
section
variable {σ : St} {H : Hp} {D : Ends} {rest : TS} {te to : TE} {l : Addr} {xs : List V} {K : PySem.W.Frag}
theorem st_app1 {R : V → Hp → Prop} (ho : Pu to σ H (.ref l)) (hl : H l = some (.lst xs)) (he : Gv te σ H R) (q : ∀ v H', R v H' → ∃ ys, H' l = some (.lst ys) ∧ ys.length < sizeLine ∧ D.nx σ (upd H' l (.lst (ys ++ [v])))) :
    tDrop (tBM K "list" rAppend to (tCons te tNil)) D σ H :=
  ho _ ⟨.inl ⟨rfl, _, SqL.of hl⟩, he _ fun v H' r => by
    obtain ⟨ys, h1, h2, h3⟩ := q v H' r
    exact ⟨l, ys, v, rfl, rfl, h1, h2, h3⟩⟩
end
/-! ### comprehensions by what they give -/
section
variable {σ : St} {H : Hp} {te tl : TE} {fr : St → St} {k : Nat} {K : PySem.W.Frag}
/-- over a range, by what holds between two turns -/
theorem gv_compR {ta : TA} {n : Int} (Pv : Addr → Nat → List V → Hp → Prop) (ha : PuA ta σ H [.int n]) (h1 : -(2 ^ 62) ≤ n) (h2 : n < 2 ^ 62) (hk : ∀ x, KeepS (fr σ) ((fr σ).set k (some x)))
    (h0 : ∀ D, H D = none → Pv D 0 [] (upd H D (.lst [])))
    (hs : ∀ D (i : Nat) ys H', H D = none → i < n.toNat → Pv D i ys H' → ys.length < sizeLine ∧ Gv te ((fr σ).set k (some (.int (0 + i)))) H' (fun y H4 => H4 D = some (.lst ys) ∧ Pv D (i + 1) (ys ++ [y]) (upd H4 D (.lst (ys ++ [y]))))) :
    Gv (tComp (iRng1 ta) fr (gName k) te) σ H (fun v H' => ∃ D ys, H D = none ∧ v = .ref D ∧ Pv D n.toNat ys H') := by
  intro Q g
  refine ha _ ⟨n, rfl, h1, h2, fun D hD => ?_⟩
  refine ⟨fun i m ys H' => m = n.toNat - i ∧ i ≤ n.toNat ∧ Pv D i ys H', ⟨_, rfl, Nat.zero_le _, h0 D hD⟩, ?_⟩
  rintro i m ys H' ⟨rfl, hi, p⟩
  by_cases hlt : i < n.toNat
  · obtain ⟨z1, z2⟩ := hs D i ys H' hD hlt p
    refine .inr ⟨hlt, z1, fun x H3 y => ?_⟩
    obtain ⟨e, y⟩ := y
    subst e y
    exact ⟨hk _, z2 _ fun v H4 r => ⟨r.1, n.toNat - (i + 1), by omega, rfl, hlt, r.2⟩⟩
  · have e : i = n.toNat := by omega
    subst e
    exact .inl ⟨Nat.le_refl _, g _ _ ⟨D, ys, hD, rfl, p⟩⟩
/-- all(..) of a list of bools, laid by the argument -/
theorem gv_all {R : V → Hp → Prop} (bs : List Bool) (h : Gv te σ H R) (f : ∀ v H', R v H' → ∃ p : Addr, v = .ref p ∧ SqL K H' p (bs.map V.bl)) :
    Gv (tCB (fun xs H Q => ∃ (p : Addr) (bs : List Bool), xs = [.ref p] ∧ SqL K H p (bs.map V.bl) ∧ Q (.bl (bs.all id)) H) (tCons te tNil)) σ H (fun v H' => (∃ p : Addr, R (.ref p) H') ∧ v = .bl (bs.all id)) := by
  intro Q g
  refine h _ fun v H' r => ?_
  obtain ⟨p, rfl, hp⟩ := f v H' r
  exact ⟨p, bs, rfl, hp, g _ _ ⟨⟨p, r⟩, rfl⟩⟩
theorem gv_andG {ta tb : TE} {R R' : V → Hp → Prop} (h : Gv ta σ H R) (f : ∀ v H', R v H' → ∃ c, v = .bl c ∧ (c = true → Gv tb σ H' R') ∧ (c = false → R' (.bl false) H')) : Gv (tAndV ta tb) σ H R' := by
  intro Q g
  refine h _ fun v H' r => ?_
  obtain ⟨c, rfl, h1, h2⟩ := f v H' r
  refine ⟨c, rfl, ?_⟩
  cases c with
  | true => rw [if_pos rfl]; exact h1 rfl Q g
  | false => rw [if_neg Bool.false_ne_true]; exact g _ _ (h2 rfl)
end
/-! ### tuples in lists -/
/-! ### the hand of a law -/
def HandAt (H : Hp) (hd sc : Addr) : Prop := ∃ (ns : List Int) (i b c p q : Int), H hd = some (.lst [.ref sc, .int i, .int b, .int c, .int p, .int q]) ∧ H sc = some (.lst (ns.map V.int)) ∧ 0 ≤ i
theorem HandAt.ne {H : Hp} {hd sc : Addr} {ns : List Int} {i b c p q : Int} (h1 : H hd = some (.lst [.ref sc, .int i, .int b, .int c, .int p, .int q])) (h2 : H sc = some (.lst (ns.map V.int))) : sc ≠ hd := by
  intro e
  subst e
  rw [h1] at h2
  cases ns with
  | nil => simp at h2
  | cons n r => simp at h2
theorem HandAt.same {H H' : Hp} {hd sc : Addr} (h : HandAt H hd sc) (e : Same H H') : HandAt H' hd sc := by
  obtain ⟨ns, i, b, c, p, q, h1, h2, h0⟩ := h
  exact ⟨ns, i, b, c, p, q, e _ _ h1, e _ _ h2, h0⟩
theorem HandAt.ls {H : Hp} {hd sc : Addr} (h : HandAt H hd sc) : ∃ ys, H hd = some (.lst ys) := by
  obtain ⟨ns, i, b, c, p, q, h1, _⟩ := h
  exact ⟨_, h1⟩
theorem HandAt.fresh {H : Hp} {hd sc l : Addr} (h : HandAt H hd sc) (hl : H l = none) : l ≠ hd ∧ l ≠ sc := by
  obtain ⟨ns, i, b, c, p, q, h1, h2, _⟩ := h
  exact ⟨Ne.symm (ne_of_none h1 hl), Ne.symm (ne_of_none h2 hl)⟩
theorem HandAt.upd {H : Hp} {hd sc l : Addr} {o : HO} (h : HandAt H hd sc) (n : l ≠ hd ∧ l ≠ sc) : HandAt (upd H l o) hd sc := by
  obtain ⟨ns, i, b, c, p, q, h1, h2, h0⟩ := h
  exact ⟨ns, i, b, c, p, q, by rw [upd_ne (Ne.symm n.1)]; exact h1, by rw [upd_ne (Ne.symm n.2)]; exact h2, h0⟩
end L2

set_option linter.all false
set_option maxRecDepth 100000
set_option maxHeartbeats 4000000
namespace L2
open PySem PySem.Spec PyProof.Rows
/-! ### sums of fractions -/
/-! ### a comprehension that catches one name -/
theorem lookup_one {y y' : Str} {c c' : Addr} (h : List.lookup y' [(y, c)] = some c') : y' = y ∧ c' = c := by
  rw [List.lookup_cons] at h
  split at h
  · rename_i e
    exact ⟨eq_of_beq e, (Option.some.inj h).symm⟩
  · cases h
theorem lookup_mem {names : List (Str × NameKind)} {y : Str} {k : NameKind} (e : names.lookup y = some k) : (y, k) ∈ names := by
  induction names with
  | nil => cases e
  | cons p r ih =>
    rw [List.lookup_cons] at e
    split at e
    · rename_i h
      have h' : y = p.1 := eq_of_beq h
      have e' : p.2 = k := Option.some.inj e
      rw [h', ← e']
      exact List.mem_cons_self
    · exact List.mem_cons_of_mem _ (ih e)
/-! ### lists of points -/
end L2

set_option linter.all false
namespace L2
/-! ### what two sides share -/
/-! ### the order of points -/
/-! ### on one line -/
end L2

set_option linter.all false
set_option maxRecDepth 100000
set_option maxHeartbeats 4000000
namespace L2
open PySem PySem.Spec PyProof.Rows
/-! ### tuples of points -/
section
variable {σ : St} {H : Hp} {ta tb te : TE} {K : PySem.W.Frag} {x y : V} {b : Bool} {D : Ends} {rest : TS}
theorem pu_ifE {tc : TT} (h : PuT tc σ H b) (h1 : b = true → Pu ta σ H x) (h2 : b = false → Pu tb σ H x) : Pu (tIf tc ta tb) σ H x := fun Q q => h _ (by
  cases b with
  | true => rw [if_pos rfl]; exact h1 rfl Q q
  | false => rw [if_neg Bool.false_ne_true]; exact h2 rfl Q q)
theorem st_tupl {g : TG} {tb : TS} {a : Addr} {xs : List V} (ha : Pu te σ H (.ref a)) (Pv : Nat → St → Hp → Prop) (h0 : Pv 0 σ H) (hl : ∀ i σ H, i ≤ xs.length → Pv i σ H → SqT K H a xs)
    (hs : ∀ (i : Nat) x σ H, xs[i]? = some x → Pv i σ H → g x σ H fun σ2 H2 => tb { D with nx := Pv (i + 1), ct := Pv (i + 1), bk := rest D } σ2 H2) (hd : ∀ σ H, Pv xs.length σ H → rest D σ H) :
    tSeq (tFor (iTup K te) g tb) rest D σ H :=
  ha _ ⟨a, rfl, ⟨xs, hl 0 σ H (Nat.zero_le _) h0⟩, for_tup (D := { D with nx := rest D }) Pv h0 hl hs hd⟩
end
section
variable {σ : St} {H : Hp} {t : TA} {RA : List V → Hp → Prop} {R : V → Hp → Prop}
theorem gv_tupA (h : GvA t σ H RA) (f : ∀ vs H1, RA vs H1 → vs.length ≤ sizeLine ∧ ∀ p, H1 p = none → R (.ref p) (upd H1 p (.tup vs))) : Gv (tTup t) σ H R := fun Q q => h _ fun vs H1 r => ⟨(f vs H1 r).1, fun p hp => q _ _ ((f vs H1 r).2 p hp)⟩
theorem gv_lstA (h : GvA t σ H RA) (f : ∀ vs H1, RA vs H1 → vs.length ≤ sizeLine ∧ ∀ p, H1 p = none → R (.ref p) (upd H1 p (.lst vs))) : Gv (tLst t) σ H R := fun Q q => h _ fun vs H1 r => ⟨(f vs H1 r).1, fun p hp => q _ _ ((f vs H1 r).2 p hp)⟩
end
theorem pu_cast {t : TE} {σ : St} {H : Hp} {v w : V} (h : Pu t σ H v) (e : v = w) : Pu t σ H w := by rw [← e]; exact h
theorem GvT.imp {t : TT} {σ : St} {H : Hp} {R R' : Bool → Hp → Prop} (h : GvT t σ H R) (f : ∀ v H', R v H' → R' v H') : GvT t σ H R' := fun Q q => h Q fun v H' r => q v H' (f v H' r)
/-! ### sizes of what is told -/
end L2

set_option linter.all false
namespace L2
/-! ### just what is shared -/
end L2

set_option linter.all false
set_option maxRecDepth 100000
set_option maxHeartbeats 4000000
namespace L2
open PySem PySem.Spec PyProof.Rows
/-! ### zip -/
section
variable {prog : Program} {w : World} {A : Around} {E : Value → Shared → Prop} {s : Shared}
theorem nx_tup {j t : Addr} {k : Nat} {its : Array Value} {y : Value} {Q : Value → Shared → Prop} (st : s.heap.IsTupleIter j t k) (tu : s.heap.IsTuple t its) (e : its[k]? = some y)
    (q : ∀ h', h'.IsTupleIter j t (k + 1) → Heap.SameBut j s.heap h' → Q y { s with heap := h' }) : wpAny (model prog w) A (Builtin.SmallTypes.nextOf (.ref j)) Q E s := by
  obtain ⟨u, hu, uc, ud⟩ := id st
  obtain ⟨v, hv, _, m, vd⟩ := tu
  unfold Builtin.SmallTypes.nextOf
  refine wpAny_bind (wpAny_callSpecial?_slot (name := Str.ofString "__next__") st.typeIs F.slot_tuple_iterator_next (wpAny_call_entry F.slot_tuple_iterator_next st.typeIs F.entry_tuple_iterator_next ?_ (F.args_tuple_iterator_next_1 _)))
  show wpAny _ _ (field (.ref j) 0 >>= _) _ _ s
  refine wpAny_bind (wpAny_field hu ud (x := .ref t) rfl ?_)
  show wpAny _ _ (ite ((Value.ref t == Value.none) = true) _ _) _ _ s
  rw [if_neg (c := (Value.ref t == Value.none) = true) (by exact Bool.false_ne_true)]
  show wpAny _ _ (field (.ref j) 1 >>= _) _ _ s
  refine wpAny_bind (wpAny_field hu ud (x := .int k 0) rfl ?_)
  refine wpAny_bind (m := seqItems? (.ref t)) (wpAny_seqItems hv vd ?_)
  simp only [Int.toNat_natCast, e]
  refine wpAny_bind (wpAny_setField hu ud (by simp) (wpAny_pure ⟨y, rfl, wpAny_pure (q _ ?_ (Heap.SameBut.update ..))⟩))
  refine ⟨_, Heap.get?_update_self _ hu (Obj.isFreed_of_fields (Obj.data_mapFields ud _)), (Obj.cls_mapFields ..).trans uc, ?_⟩
  rw [Obj.data_mapFields ud]; simp [rawInt]
theorem nx_tupEnd {j t : Addr} {k : Nat} {its : Array Value} {Q : Value → Shared → Prop} (hd : A.handled = none) (st : s.heap.IsTupleIter j t k) (tu : s.heap.IsTuple t its) (e : its[k]? = none)
    (q : ∀ h' x, Heap.ExtBut j s.heap h' → (∃ o, h'.get? x = some o ∧ o.cls = .type "StopIteration") → E (.ref x) { s with heap := h' }) : wpAny (model prog w) A (Builtin.SmallTypes.nextOf (.ref j)) Q E s := by
  obtain ⟨u, hu, uc, ud⟩ := id st
  obtain ⟨v, hv, _, m, vd⟩ := tu
  unfold Builtin.SmallTypes.nextOf
  refine wpAny_bind (wpAny_callSpecial?_slot (name := Str.ofString "__next__") st.typeIs F.slot_tuple_iterator_next (wpAny_call_entry F.slot_tuple_iterator_next st.typeIs F.entry_tuple_iterator_next ?_ (F.args_tuple_iterator_next_1 _)))
  show wpAny _ _ (field (.ref j) 0 >>= _) _ _ s
  refine wpAny_bind (wpAny_field hu ud (x := .ref t) rfl ?_)
  show wpAny _ _ (ite ((Value.ref t == Value.none) = true) _ _) _ _ s
  rw [if_neg (c := (Value.ref t == Value.none) = true) (by exact Bool.false_ne_true)]
  show wpAny _ _ (field (.ref j) 1 >>= _) _ _ s
  refine wpAny_bind (wpAny_field hu ud (x := .int k 0) rfl ?_)
  refine wpAny_bind (m := seqItems? (.ref t)) (wpAny_seqItems hv vd ?_)
  simp only [Int.toNat_natCast, e]
  refine wpAny_bind (wpAny_rule (wpAny_bind (wpAny_setField hu ud (by simp) ?_)))
  refine wpAny_bind (m := newExc (.type "StopIteration") []) ?_
  simp only [newExc, newTuple]
  refine wpAny_bind (wpAny_newObj_type (wpAny_bind (m := firstArgMember _ _) (wpAny_of_eq (a := Value.none) (by first | rfl | (simp only [firstArgMember]; rfl)) (wpAny_newObj_type ?_ (by size_fits)))) (by size_fits))
  simp only [raiseNew]
  refine wpAny_bind (wpAny_handled ?_)
  first | rw [hd] | rw [show A.in1.handled = none from hd]
  exact wpAny_bind (wpAny_pure (wpAny_throw (q _ _ (((Heap.SameBut.update ..).extBut.push _).push _) ⟨_, Heap.get?_push_size _ rfl, rfl⟩)))
/-- what a zip draws from -/
structure Src (prog : Program) (w : World) (j l : Addr) (tu : Nat → Heap → Prop) (has : Array Value → Heap → Prop) : Prop where
  tk : ∀ k h h', tu k h → (∀ o, h.get? j = some o → h'.get? j = some o) → tu k h'
  hk : ∀ xs h h', has xs h → (∀ o, h.get? l = some o → h'.get? l = some o) → has xs h'
  item : ∀ (A : Around) (k : Nat) (xs : Array Value) (x : Value) (s : Shared) (Q : Value → Shared → Prop) (E : Value → Shared → Prop), tu k s.heap → has xs s.heap → xs[k]? = some x →
    (∀ h', tu (k + 1) h' → Heap.SameBut j s.heap h' → Q x { s with heap := h' }) → wpAny (model prog w) A (Builtin.SmallTypes.nextOf (.ref j)) Q E s
  stop : ∀ (A : Around) (k : Nat) (xs : Array Value) (s : Shared) (Q : Value → Shared → Prop) (E : Value → Shared → Prop), A.handled = none → tu k s.heap → has xs s.heap → xs[k]? = none →
    (∀ h' x, Heap.ExtBut j s.heap h' → (∃ o, h'.get? x = some o ∧ o.cls = .type "StopIteration") → E (.ref x) { s with heap := h' }) → wpAny (model prog w) A (Builtin.SmallTypes.nextOf (.ref j)) Q E s
  obj : ∀ k h, tu k h → ∃ o, h.get? j = some o ∧ ∀ v, o.data ≠ .cell v
theorem src_tup (j l : Addr) : Src prog w j l (fun k h => h.IsTupleIter j l k) (fun xs h => h.IsTuple l xs) where
  tk := fun k h h' st f => by
    obtain ⟨o, e, r⟩ := st
    exact ⟨o, f o e, r⟩
  hk := fun xs h h' st f => by
    obtain ⟨o, e, r⟩ := st
    exact ⟨o, f o e, r⟩
  item := fun A k xs x s Q E st hl e q => nx_tup st hl e q
  stop := fun A k xs s Q E hd st hl e q => nx_tupEnd hd st hl e q
  obj := fun k h st => by
    obtain ⟨o, e, _, d⟩ := st
    exact ⟨o, e, fun v z => by rw [d] at z; cases z⟩
variable {z TI TO i1 i2 l1 l2 : Addr} {k1 k2 : Nat} {xs ys : Array Value} {x y a b : Value} {tu1 tu2 : Nat → Heap → Prop} {has1 has2 : Array Value → Heap → Prop}
/-- what the second turn of the loop within a zip's step leaves: the pair that is kept has both things, the zip waits to hand it out -/
theorem zz_out {Q : Value → Shared → Prop} {g : Heap} (hz : IsZip g z TI TO .ellipsis) (q : ∀ g', IsZip g' z TI TO (rawInt g.objs.size) → IsPair g' g.objs.size x y → (∀ c o, c ≠ z → g.get? c = some o → g'.get? c = some o) → Q (.ref g.objs.size) { s with heap := g' }) :
    wpAny (model prog w) A (newTuple [x, y] >>= fun v => Builtin.SmallTypes.ownedTupleHandOut (.ref z) v >>= fun _ => ret v) (fun fin s' => ∃ v, fin = .done (.ret v) ∧ Q v s') E { s with heap := g } := by
  have zl : z ≠ g.objs.size := Nat.ne_of_lt (Heap.lt_size hz)
  refine wpAny_bind (wpAny_newTuple (wpAny_bind ?_))
  unfold Builtin.SmallTypes.ownedTupleHandOut
  have p0 : IsPair (g.push { cls := .type "tuple", data := .seq #[x, y] }) g.objs.size x y := Heap.get?_push_size _ rfl
  refine wpAny_bind (wpAny_setField_rec (Heap.get?_push_of_some _ hz) (by simp) fun _ z1 b1 => wpAny_setField_rec z1 (by simp) fun _ z2 b2 => wpAny_pure ⟨_, rfl, q _ z2 ?_ fun c o n e => ?_⟩)
  · exact b2.extBut _ _ zl.symm (b1.extBut _ _ zl.symm p0)
  · exact b2.extBut _ _ n (b1.extBut _ _ n (Heap.get?_push_of_some _ e))
/-- one step of a zip over two sources, whichever way it ends -/
theorem zz_turn {Q : Value → Shared → Prop} (D : ZipApart z TI TO i1 i2 l1 l2) (S1 : Src prog w i1 l1 tu1 has1) (S2 : Src prog w i2 l2 tu2 has2) (hz : IsZip s.heap z TI TO .none) (hI : IsPair s.heap TI (.ref i1) (.ref i2)) (hO : IsPair s.heap TO a b)
    (t1 : tu1 k1 s.heap) (t2 : tu2 k2 s.heap) (c1 : has1 xs s.heap) (c2 : has2 ys s.heap) (hd : xs[k1]? = none ∨ ys[k2]? = none → A.handled = none)
    (it : ∀ x y h', xs[k1]? = some x → ys[k2]? = some y → IsZip h' z TI TO (rawInt s.heap.objs.size) → IsPair h' TO x y → tu1 (k1 + 1) h' → tu2 (k2 + 1) h' → IsPair h' s.heap.objs.size x y →
      (∀ c o, c ≠ z ∧ c ≠ TO ∧ c ≠ i1 ∧ c ≠ i2 → s.heap.get? c = some o → h'.get? c = some o) → Q (.ref s.heap.objs.size) { s with heap := h' })
    (en : ∀ h' e, xs[k1]? = none ∨ ys[k2]? = none → (∀ c o, c ≠ z ∧ c ≠ i1 ∧ c ≠ TO ∧ c ≠ i2 → s.heap.get? c = some o → h'.get? c = some o) → (∃ o, h'.get? e = some o ∧ o.cls = .type "StopIteration") → E (.ref e) { s with heap := h' }) :
    wpAny (model prog w) A (Builtin.«zip.__next__» ⟨[.ref z], []⟩) (fun fin s' => ∃ v, fin = .done (.ret v) ∧ Q v s') E s := by
  have rd : ∀ {β : Type} {f : Nat} {x : Value} {k : Value → Sem β} {R : β → Shared → Prop}, (#[Value.none, .bool false, .bool false, .ref TI, .ref TO] : Array Value)[f]? = some x → wpAny (model prog w) A (k x) R E s → wpAny (model prog w) A (field (.ref z) f >>= k) R E s := fun e h => wpAny_bind (wpAny_field hz rfl e h)
  refine rd (f := 2) rfl (rd (f := 3) rfl (wpAny_bind (wpAny_seqItems hI rfl (wpAny_bind (rd (f := 0) rfl (wpAny_pure ?_))))))
  rw [if_pos (by rfl)]
  refine wpAny_bind (wpAny_rule (rd (f := 4) rfl (wpAny_bind (wpAny_setField_rec hz (by simp) fun g hg bg => wpAny_bind ?_))))
  have hg' : IsZip g z TI TO .ellipsis := hg
  have hO1 : IsPair g TO a b := bg.extBut _ _ D.TOz hO
  have pass : ∀ {g1 g2 : Heap} {e : Addr}, IsZip g1 z TI TO .ellipsis → (∃ o, g1.get? e = some o ∧ o.cls = .type "StopIteration") → Heap.SameBut z g1 g2 → ∃ o, g2.get? e = some o ∧ o.cls = .type "StopIteration" := fun iz ⟨o, h1, h2⟩ bb => ⟨o, bb.extBut _ _ (fun ez => by rw [ez, iz] at h1; cases h1; simp at h2) h1, h2⟩
  dsimp only [List.zipIdx_cons, List.zipIdx_nil]
  rw [List.forIn_cons]
  refine wpAny_bind (wpAny_bind (wpAny_onRaise (m := Builtin.SmallTypes.nextOf (.ref i1) >>= _) (wpAny_bind ?_)))
  have a1 := S1.tk _ _ _ t1 fun o e => bg.extBut _ o D.i1z e
  have a2 := S1.hk _ _ _ c1 fun o e => bg.extBut _ o D.l1z e
  cases hx : xs[k1]? with
  | none => exact S1.stop _ k1 xs { s with heap := g } _ _ (hd (.inl hx)) a1 a2 hx fun g' e bx he => wpAny_setField_rec (bx _ _ D.i1z.symm hg') (by simp) fun g2 _ b2 => en g2 e (.inl hx) (fun c o n f => b2.extBut _ _ n.1 (bx _ _ n.2.1 (bg.extBut _ _ n.1 f))) (pass (bx _ _ D.i1z.symm hg') he b2)
  | some x =>
    refine S1.item _ k1 xs x { s with heap := g } _ _ a1 a2 hx fun g' u1 bx => wpAny_pure ?_
    have o1 : IsPair g' TO a b := bx.extBut _ _ D.TOi1 hO1
    refine wpAny_bind (wpAny_seqItems o1 rfl (wpAny_bind (wpAny_updateSeq_pair o1 fun g2 o2 b2 => wpAny_bind (wpAny_letGo (wpAny_pure ?_)))))
    dsimp only
    rw [List.forIn_cons]
    refine wpAny_bind (wpAny_bind (wpAny_onRaise (m := Builtin.SmallTypes.nextOf (.ref i2) >>= _) (wpAny_bind ?_)))
    have up : ∀ c o, c ≠ z → c ≠ i1 → c ≠ TO → s.heap.get? c = some o → g2.get? c = some o := fun c o n1 n2 n3 e => b2.extBut _ _ n3 (bx.extBut _ _ n2 (bg.extBut _ _ n1 e))
    have d1 := S2.tk _ _ _ t2 fun o e => up _ o D.i2z D.i12.symm D.TOi2.symm e
    have d2 := S2.hk _ _ _ c2 fun o e => up _ o D.l2z D.l2i1 D.l2TO e
    have zg2 : IsZip g2 z TI TO .ellipsis := b2.extBut _ _ D.TOz.symm (bx.extBut _ _ D.i1z.symm hg')
    cases hy : ys[k2]? with
    | none => exact S2.stop _ k2 ys { s with heap := g2 } _ _ (hd (.inr hy)) d1 d2 hy fun g' e by_ he => wpAny_setField_rec (by_ _ _ D.i2z.symm zg2) (by simp) fun g3 _ b3 => en g3 e (.inr hy) (fun c o n f => b3.extBut _ _ n.1 (by_ _ _ n.2.2.2 (up c o n.1 n.2.1 n.2.2.1 f))) (pass (by_ _ _ D.i2z.symm zg2) he b3)
    | some y =>
      refine S2.item _ k2 ys y { s with heap := g2 } _ _ d1 d2 hy fun g3 u2 by_ => wpAny_pure ?_
      have o3 : IsPair g3 TO x b := by_.extBut _ _ D.TOi2 o2
      refine wpAny_bind (wpAny_seqItems o3 rfl (wpAny_bind (wpAny_updateSeq_pair o3 fun g4 o4 b4 => wpAny_bind (wpAny_letGo (wpAny_pure ?_)))))
      dsimp only
      rw [List.forIn_nil]
      have o4' : IsPair g4 TO x y := o4
      have sz : g4.objs.size = s.heap.objs.size := b4.1.trans (by_.1.trans (b2.1.trans (bx.1.trans bg.1)))
      have v1 := S1.tk _ _ _ u1 fun o e => b4.extBut _ o D.TOi1.symm (by_.extBut _ o D.i12 (b2.extBut _ o D.TOi1.symm e))
      have v2 := S2.tk _ _ _ u2 fun o e => b4.extBut _ o D.TOi2.symm e
      refine wpAny_pure (wpAny_bind (wpAny_seqItems o4' rfl (zz_out (s := s) (x := x) (y := y) (b4.extBut _ _ D.TOz.symm (by_.extBut _ _ D.i2z.symm zg2)) fun g5 e1 e2 e3 => ?_)))
      rw [sz] at e1 e2 ⊢
      exact it x y g5 hx hy e1 (e3 _ _ D.TOz o4') (S1.tk _ _ _ v1 fun o e => e3 _ o D.i1z e) (S2.tk _ _ _ v2 fun o e => e3 _ o D.i2z e) e2 fun c o n f => e3 _ _ n.1 (b4.extBut _ _ n.2.1 (by_.extBut _ _ n.2.2.2 (up c o n.1 n.2.2.1 n.2.1 f)))
theorem zz_nextItem {Q : Option Value → Shared → Prop} (D : ZipApart z TI TO i1 i2 l1 l2) (S1 : Src prog w i1 l1 tu1 has1) (S2 : Src prog w i2 l2 tu2 has2) (hz : IsZip s.heap z TI TO .none) (hI : IsPair s.heap TI (.ref i1) (.ref i2)) (hO : IsPair s.heap TO a b)
    (t1 : tu1 k1 s.heap) (t2 : tu2 k2 s.heap) (c1 : has1 xs s.heap) (c2 : has2 ys s.heap) (ex : xs[k1]? = some x) (ey : ys[k2]? = some y)
    (q : ∀ h', IsZip h' z TI TO (rawInt s.heap.objs.size) → IsPair h' TO x y → tu1 (k1 + 1) h' → tu2 (k2 + 1) h' → IsPair h' s.heap.objs.size x y →
      (∀ c o, c ≠ z → c ≠ TO → c ≠ i1 → c ≠ i2 → s.heap.get? c = some o → h'.get? c = some o) → Q (some (.ref s.heap.objs.size)) { s with heap := h' }) : wpAny (model prog w) A (pyNext (.ref z)) Q E s := by
  have ty : s.TypeIs (.ref z) "zip" := ⟨_, hz, rfl⟩
  unfold pyNext
  have no : ¬ (xs[k1]? = none ∨ ys[k2]? = none) := by rw [ex, ey]; rintro (h | h) <;> cases h
  refine wpAny_bind (wpAny_attempt (wpAny_callSpecial?_slot (name := Str.ofString "__next__") ty F.slot_zip_next (wpAny_call_entry F.slot_zip_next ty F.entry_zip_next (zz_turn D S1 S2 hz hI hO t1 t2 c1 c2 (fun h => absurd h no) (fun x' y' h' e1 e2 a1 a2 a3 a4 a5 a6 => ?_) fun _ _ h => absurd h no) (F.args_zip_next_1 _))))
  rw [ex] at e1
  rw [ey] at e2
  cases e1
  cases e2
  exact wpAny_pure (q h' a1 a2 a3 a4 a5 fun c o n1 n2 n3 n4 => a6 c o ⟨n1, n2, n3, n4⟩)
theorem zz_nextEnd {Q : Option Value → Shared → Prop} (hd : A.handled = none) (D : ZipApart z TI TO i1 i2 l1 l2) (S1 : Src prog w i1 l1 tu1 has1) (S2 : Src prog w i2 l2 tu2 has2) (hz : IsZip s.heap z TI TO .none) (hI : IsPair s.heap TI (.ref i1) (.ref i2)) (hO : IsPair s.heap TO a b)
    (t1 : tu1 k1 s.heap) (t2 : tu2 k2 s.heap) (c1 : has1 xs s.heap) (c2 : has2 ys s.heap) (en : xs[k1]? = none ∨ ys[k2]? = none)
    (q : ∀ h', (∀ c o, c ≠ z → c ≠ TO → c ≠ i1 → c ≠ i2 → s.heap.get? c = some o → h'.get? c = some o) → Q none { s with heap := h' }) : wpAny (model prog w) A (pyNext (.ref z)) Q E s := by
  have ty : s.TypeIs (.ref z) "zip" := ⟨_, hz, rfl⟩
  unfold pyNext
  refine wpAny_bind (wpAny_attempt (wpAny_callSpecial?_slot (name := Str.ofString "__next__") ty F.slot_zip_next (wpAny_call_entry F.slot_zip_next ty F.entry_zip_next (zz_turn D S1 S2 hz hI hO t1 t2 c1 c2 (fun _ => hd) (fun x y h' e1 e2 => ?_) fun h' e _ hk he => ?_) (F.args_zip_next_1 _))))
  · rw [e1, e2] at en
    rcases en with h | h <;> cases h
  · obtain ⟨o, ho, hc⟩ := he
    exact wpAny_bind (wpAny_isInstance (T := "StopIteration") (b := true) ⟨o, ho, hc⟩ isSubtype_stop (wpAny_pure (q _ fun c o n1 n2 n3 n4 => hk c o ⟨n1, n3, n2, n4⟩)))
end
/-! ### the invariant behind a turn of several objects -/
section
variable {X : Cx} {pins : List (Addr × Obj)} {σ : St} {H : Hp} {s : Shared} {h' : Heap} {ch : List Addr}
theorem Inv.turnedL (I : Inv X pins σ H s) (k : ∀ b o, b ∉ ch → s.heap.get? b = some o → h'.get? b = some o) (f : ∀ b ∈ ch, FpOk X pins H b) : Inv X pins σ H { s with heap := h' } := by
  have no : ∀ b u, H b = some u → b ∉ ch := fun b u e hb => by have := (f b hb).1; rw [e] at this; cases this
  refine I.call' (s' := { s with heap := h' }) (ch := ch) rfl ⟨fun b o e _ _ n => k b o n e, fun b o e _ _ n => ⟨o.slots, k b o n e⟩, fun _ _ _ n _ => n, fun b o e n => ⟨o, k b o n e⟩, fun _ _ e => e, fun _ _ _ e => e, fun b ps e => ⟨#[], by rw [e]; simp⟩⟩ (fun a o e => ?_) I.bare fun b hb => ?_
  · refine (I.hok a o e).stay (fun c u hc q => k c u ?_ q) (fun _ q => q) fun _ _ q => q
    rcases hc with rfl | hc
    · exact no _ _ e
    · exact no _ _ hc
  · exact ⟨(f b hb).2.2.2.1, (f b hb).2.1, (f b hb).2.2.2.2.1, (f b hb).2.2.2.2.2⟩
theorem Inv.turnedT {x y : V} {u v : Value} (I : Inv X pins σ H s) (k : ∀ b o, b ∉ ch → s.heap.get? b = some o → h'.get? b = some o) (f : ∀ b ∈ ch, FpOk X pins H b) (hT : IsPair h' s.heap.objs.size u v) (ru : RelV x u) (rv : RelV y v) :
    Inv X pins σ (upd H s.heap.objs.size (.tup [x, y])) { s with heap := h' } := by
  have no : ∀ b u, H b = some u → b ∉ ch := fun b u e hb => by have := (f b hb).1; rw [e] at this; cases this
  have hn : H s.heap.objs.size = none := I.hok.fresh (Nat.le_refl _)
  have ne : ∀ {b : Addr} {o : Obj}, s.heap.get? b = some o → b ≠ s.heap.objs.size := fun e => Nat.ne_of_lt (Heap.lt_size e)
  refine I.call' (s' := { s with heap := h' }) (ch := ch) rfl ⟨fun b o e _ _ n => k b o n e, fun b o e _ _ n => ⟨o.slots, k b o n e⟩, fun b o e n _ => by rw [upd_ne (ne e)]; exact n, fun b o e n => ⟨o, k b o n e⟩, fun b xs e => by rw [upd_ne (ne_of_none e hn)]; exact e, fun b o u e => by rw [upd_ne (ne_of_none e hn)]; exact e, fun b ps e => ⟨#[], by rw [upd_ne (ne_of_none e hn), e]; simp⟩⟩ (fun a o e => ?_) I.bare fun b hb => ?_
  · by_cases ha : a = s.heap.objs.size
    · subst ha
      rw [upd_same] at e
      cases e
      exact ⟨by show 2 ≤ sizeLine; decide, [u, v], .cons ru (.cons rv .nil), ⟨_, hT, rfl, _, rfl⟩⟩
    · rw [upd_ne ha] at e
      refine (I.hok a o e).stay (fun c u hc q => k c u ?_ q) (fun c q => by rw [upd_ne (ne_of_none q hn)]; exact q) fun c xs q => by rw [upd_ne (ne_of_none q hn)]; exact q
      rcases hc with rfl | hc
      · exact no _ _ e
      · exact no _ _ hc
  · exact ⟨(f b hb).2.2.2.1, (f b hb).2.1, (f b hb).2.2.2.2.1, (f b hb).2.2.2.2.2⟩
end
/-! ### zip walked -/
/-! ### zip made -/
section
variable {prog : Program} {w : World} {A : Around} {E : Value → Shared → Prop} {s : Shared}
theorem zip_apart {n a b : Nat} (ha : a < n) (hb : b < n) : ZipApart (n + 4) (n + 2) (n + 3) n (n + 1) a b := by
  constructor <;> (first | exact Nat.ne_of_lt (by omega) | exact Nat.ne_of_gt (by omega))
end
end L2

set_option linter.all false
set_option maxRecDepth 100000
set_option maxHeartbeats 4000000
namespace L2
open PySem PySem.Spec PyProof.Rows
/-! ### how far a point lies, how long its bottom is -/
/-! ### more readings -/
theorem pg_tupK {X : Cx} {K : PySem.W.Frag} {es : List Expr} {k : Nat} {t : TGs} {n : Nat} {pos : Pos} (hK : X.K = K) (hc : X.calm = true) (h : PGs X es t) (hn : (assignEach es X.env).length = n := by rfl) (hst : (assignEach es X.env).findIdx? (·.1) = none := by rfl) : PG X (.Tuple es k pos) (gTup K n t) := by
  subst hK; exact pg_tup hc h hn hst
/-! ### lists of sides -/
end L2

set_option linter.all false
namespace L2
/-! ### one place, one tuple -/
end L2

set_option linter.all false
namespace L2
end L2

set_option linter.all false
set_option maxRecDepth 100000
set_option maxHeartbeats 4000000
namespace L2
open PySem PySem.Spec PyProof.Rows
/-! ### exceptions: how one lies behind a call -/
section
variable {P : Program} {w : World} {H H' : Hp} {h h' : Heap} {a : Addr} {o : HO}
theorem ObjOk.some (x : ObjOk P w H h a o) : ∃ u, h.get? a = some u := by
  cases o with
  | lst xs => obtain ⟨_, _, _, _, e⟩ := x; exact ⟨_, e⟩
  | tup xs => obtain ⟨_, _, _, o, e, _⟩ := x; exact ⟨_, e⟩
  | dK kvs => obtain ⟨_, _, _, _, o, _, _, e, _⟩ := x; exact ⟨_, e⟩
  | dT kvs => obtain ⟨_, _, _, _, o, _, _, e, _⟩ := x; exact ⟨_, e⟩
  | set S n => obtain ⟨o, _, _, _, e, _⟩ := x; exact ⟨_, e⟩
  | ins C dx fs => obtain ⟨_, _, _, e, _⟩ := x; exact ⟨_, e⟩
  | own y => exact x
  | xd fs => obtain ⟨_, ⟨_, _, _, e, _⟩, _⟩ := x; exact ⟨_, e⟩
  | rng lo hi => obtain ⟨_, _, _, e⟩ := x; exact ⟨_, e⟩
  | frz ob u => obtain ⟨e, _⟩ := x; exact ⟨_, e⟩
  | tbl ps => exact ⟨_, (show h.get? a = some _ from x)⟩
  | met f y => exact ⟨_, (show h.get? a = some _ from x)⟩
  | ext φ => obtain ⟨_, e, _⟩ := x; exact e
end
/-- an object of this class stands there -/
def isOf (a : Addr) (cls : Value) : Heap → Prop := fun h => ∃ o, h.get? a = some o ∧ o.cls = cls
/-- the ground B holds all that was there but the frames; the exception flies over it -/
structure Lay (P : Program) (w : World) (outer : List Env) (H H1 : Hp) (s : Shared) (ea : Addr) (B h : Heap) : Prop where
  hok : HOk P w H1 B
  new : H1 ea = none
  keep : ∀ b o, s.heap.get? b = some o → H b = none → b ∉ frs outer → B.get? b = some o
  slot : ∀ b o, s.heap.get? b = some o → H b = none → b ∈ frs outer → ∃ sl, h.get? b = some { o with slots := sl }
  there : ∀ b o, s.heap.get? b = some o → b ∉ frs outer → ∃ o', B.get? b = some o'
  free : ∀ b o, s.heap.get? b = some o → H b = none → H1 b = none
  tups : ∀ b xs, H b = some (.tup xs) → H1 b = some (.tup xs)
  frzs : ∀ b o u, H b = some (.frz o u) → H1 b = some (.frz o u)
  tbls : ∀ b ps, H b = some (.tbl ps) → ∃ more, H1 b = some (.tbl (ps ++ more))
def CXE (P : Program) (w : World) : CXT := fun outer H s E e s' =>
  ∃ (ea t : Addr) (H1 : Hp) (cls : Value) (B : Heap), e = .ref ea ∧ s'.os = s.os ∧ AllBare s'.gens ∧ E cls none H1 ∧ Heap.FlyingW B outer ea cls (.ref t) s'.heap ∧ Lay P w outer H H1 s ea B s'.heap
theorem passE {P : Program} {w : World} {X : Cx} : Passes (CXE P w) X E0 := fun _ _ _ _ _ _ _ ⟨_, _, _, _, _, _, _, _, e, _⟩ => e.elim
/-! ### own classes of exceptions: each straight under one that is straight under ValueError -/
def veB : List Value := [.type "ValueError", .type "Exception", .type "BaseException", .type "object"]
def noInit (K : PySem.W.Frag) (N : Addr) : Bool := PySem.W.nsOkIn K N && (match PySem.W.nsIn K N "__init__" with | some none => true | _ => false)
def exK (K : PySem.W.Frag) (C : Addr) : Bool := match K.lookup C with
  | some ⟨.type "type", _, .cls cd, sl⟩ => (match cd.mro, sl.toList with
    | [.ref C', .ref D, .type "ValueError", .type "Exception", .type "BaseException", .type "object"], [_, _, _, _, some (.builtin "ValueError.__new__"), _] => C' == C && !cd.hasDel && noInit K cd.ns && (match K.lookup D with
      | some ⟨_, _, .cls cd2, _⟩ => noInit K cd2.ns
      | _ => false)
    | _, _ => false)
  | _ => false
theorem noInit_ns {K : PySem.W.Frag} {h : Heap} {N : Addr} (X : K.In h) (e : noInit K N = true) : ∃ m, h.Ns N m ∧ m "__init__" = none := by
  unfold noInit at e
  rw [Bool.and_eq_true] at e
  obtain ⟨e1, e2⟩ := e
  refine ⟨h.nsMap N, .of_isNs (PySem.W.isNs_of_in X e1), PySem.W.nsMap_none_of_in X e1 ?_⟩
  split at e2
  · assumption
  · cases e2
theorem exK_obj {K : PySem.W.Frag} {h : Heap} {C : Addr} (X : K.In h) (e : exK K C = true) : ∃ nm qn N bs D hdct sn sub ab col dd k0 k1 k2 k3 k5 mN,
    h.get? C = some (excClassObj nm qn C N bs (.ref D :: veB) hdct sn sub ab col dd k0 k1 k2 k3 k5 "ValueError.__new__") ∧ h.Ns N mN ∧ mN "__init__" = none ∧ OwnTail h veB (.ref D :: veB) := by
  unfold exK at e
  split at e
  · rename_i dd cd sl ho
    split at e
    · rename_i C' D k0 k1 k2 k3 k5 hm hs
      simp only [Bool.and_eq_true, beq_iff_eq, Bool.not_eq_true'] at e
      obtain ⟨⟨⟨rfl, hdel⟩, hN⟩, e4⟩ := e
      obtain ⟨nm, bs, mro, ns, qn, hd, sn, sub, ab, col, del⟩ := cd
      dsimp only at hm hdel hN
      subst hm hdel
      have hsl : sl = #[k0, k1, k2, k3, some (.builtin "ValueError.__new__"), k5] := by
        obtain ⟨l⟩ := sl
        simp only at hs
        rw [hs]
      subst hsl
      obtain ⟨mN, n1, n2⟩ := noInit_ns X hN
      split at e4
      · rename_i hD
        obtain ⟨mD, d1, d2⟩ := noInit_ns X e4
        exact ⟨nm, qn, ns, bs, D, hd, sn, sub, ab, col, dd, k0, k1, k2, k3, k5, mN, X _ _ ho, n1, n2, .own (X _ _ hD) d1 d2 .base⟩
      · cases e4
    · cases e
  · cases e
/-! ### raise -/
section
variable {P : Program} {w : World} {K : PySem.W.Frag} {mg : Str → Option Value} {base : Heap} {N : List Str} {qual : Str} {scope : Scope} {f : Addr} {cd : Value} {A : Around} {outer : List Env} {s : Shared} {H : Hp} {E : XK}
theorem ps_raise0 {x : Str} {np cpos pos : Pos} {C : Addr} (hC : exK K C = true) (hm : mg x = some (.ref C)) (hg : Gl (cxOf (CXE P w) P w K mg base N qual scope f cd A outer s H E) x) (hd : (x == ("__debug__" : Str)) = false := by decide) :
    PS (cxOf (CXE P w) P w K mg base N qual scope f cd A outer s H E) (.Raise (some (.Call (.Name x np) [] [] cpos)) none pos) (fun _ _ H1 => E (.ref C) none H1) := by
  intro pins s1 σ H1 D I hE
  obtain ⟨nm, qn, N', bs, D', hdct, sn, sub, ab, col, dd, k0, k1, k2, k3, k5, mN, hCo, hN, hni, T⟩ := exK_obj I.kIn hC
  refine wpAny_Raise_call_subU (C := C) (nm := nm) (q := qn) (N := N') (bs := bs) (bm := .ref D' :: veB) (hdct := hdct) (sn := sn) (sub := sub) (ab := ab) (col := col) (dd := dd) (k0 := k0) (k1 := k1) (k2 := k2) (k3 := k3) (k5 := k5) PySem.F.excBase_ValueError (by decide +kernel) PySem.F.excBase_ValueError (mN := mN) (T.hasType PySem.F.excBase_ValueError.hasBase) (I.ok.hd rfl) rfl hni (ld_glob I hg hm ⟨rfl, ?_⟩ hd)
  refine evalArgs_empty ⟨rfl, Nat.zero_le _, hCo, hN, T, fun h' e hx => ?_⟩
  have fr : ∀ b ∈ frs (envOfC qual scope s.heap.objs.size f cd :: outer), H1 b = none := I.stkFree
  have hin : ∀ env ∈ (envOfC qual scope s.heap.objs.size f cd :: outer), ∀ b, env.frame = some b → b ∈ frs (envOfC qual scope s.heap.objs.size f cd :: outer) := fun env he b hb => List.mem_filterMap.mpr ⟨env, he, hb⟩
  refine wpAny_leaves_madeW (s := { s1 with heap := h' }) (base := PySem.W.hideAll s1.heap (frs (envOfC qual scope s.heap.objs.size f cd :: outer))) (h := s1.heap) I.ok.frames rfl (fun b o q => PySem.W.of_hideAll _ q) (PySem.W.funFrames_hide I.stack hin) hx fun h2 t x1 x2 x3 x4 => ?_
  have nf : ∀ {b : Addr} {o : Obj}, s.heap.get? b = some o → b ∉ frs outer → b ∉ frs (envOfC qual scope s.heap.objs.size f cd :: outer) := fun {b o} e n z => by
    have z' : b ∈ s.heap.objs.size :: frs outer := z
    rcases List.mem_cons.mp z' with q | q
    · exact absurd (Heap.lt_size e) (by rw [q]; exact Nat.lt_irrefl _)
    · exact n q
  refine ⟨e, t, H1, .ref C, _, rfl, I.os, I.bare, hE, x1, ⟨fun a o q => ?_, ?_, fun b o q n hb => ?_, fun b o q n hb => ?_, fun b o q hb => ?_, fun b o q n => I.base.free b o q n (by exact List.not_mem_nil), I.base.tups, I.base.frzs, I.base.tbls⟩⟩
  · refine (I.hok a o q).stay (fun b u hb z => PySem.W.hideAll_get _ z fun hm => ?_) (fun _ z => z) fun _ _ z => z
    have := fr b hm
    rcases hb with rfl | hb
    · rw [q] at this; cases this
    · rw [hb] at this; cases this
  · cases q : H1 e with
    | none => rfl
    | some o =>
      obtain ⟨u, hu⟩ := (I.hok e o q).some
      rw [hx.new] at hu; cases hu
  · exact PySem.W.hideAll_get _ (I.base.keep b o q n hb List.not_mem_nil) (nf q hb)
  · obtain ⟨sl, z⟩ := I.base.slot b o q n hb List.not_mem_nil
    obtain ⟨_, o', ho', hd'⟩ := I.ok.funs.mem hb
    rw [show (cxOf (CXE P w) P w K mg base N qual scope f cd A outer s H E).s₀.heap.get? b = some o from q] at ho'
    cases ho'
    obtain ⟨sl2, z2⟩ := x4 b _ (hx.keeps b _ z) hd'
    exact ⟨sl2, z2⟩
  · obtain ⟨o', z⟩ := I.base.there b o q List.not_mem_nil
    exact ⟨o', PySem.W.hideAll_get _ z (nf q hb)⟩
end
/-! ### a def that may raise -/
theorem Fun.okE {P : Program} {w : World} {K : PySem.W.Frag} {mg : Str → Option Value} {base : Heap} {x qual : Str} {st : Stmt} {f : Addr} {fd : FuncData} {N ps : List Str} {k : Nat} {sp : Sp} (F : Fun K x qual st f fd) (S : FnScope N ps (defScope st)) (len : ∀ vs H Q E, sp vs H Q E → vs.length = ps.length)
    (hbody : ∀ (cdv : Value) (A : Around) (outer : List Env) (s : Shared) (H : Hp) (vs : List V) (Q : VK) (E : XK), Room k (A.deeper (envOfC qual (defScope st) s.heap.objs.size f cdv)) → sp vs H Q E →
      ∃ t, PSs (cxOf (CXE P w) P w K mg base N qual (defScope st) f cdv A outer s H E) (defBody st) t ∧ t { nx := fun _ H' => Q .non H', rt := Q } (start N vs) H) : FnOk P w K mg base (CXE P w) (k + 1) f fd ps sp := by
  obtain ⟨oc, od, kV, doc, pm, an, cdv, ct, osl, rfl, lk, hcd⟩ := F.ex
  exact fn_of lk hcd S len fun A outer s H vs Q E hr hsp => hbody cdv A outer s H vs Q E hr hsp
/-! ### try: name = f(..) except C as n -/
/-- within an except suite -/
abbrev Cx.suite (X : Cx) (ea : Addr) : Cx := { X with A := X.A.mark (some (.ref ea)), calm := false, xe := fun _ _ => False }
section
variable {X : Cx} {pins : List (Addr × Obj)} {σ : St} {H H1 : Hp} {s s' : Shared} {h : Heap} {ea : Addr}
theorem Cx.Ok.suite (ok : X.Ok) (ea : Addr) : (X.suite ea).Ok :=
  ⟨ok.mod, ok.kind, ok.glob, ok.blt, ok.above, ok.inj, ok.has, ok.cab, fun z => (nomatch z), ok.frames, ok.stk, ok.exf, ok.bs, ok.bsz, ok.noex, ok.exfs, ok.funs, ok.frf⟩
theorem Inv.suite (I : Inv X pins σ H s) (ea : Addr) : Inv (X.suite ea) pins σ H s := ⟨I.ok.suite ea, I.os, I.bare, I.base, I.loc, I.cell, I.free, I.freeC, I.pin, I.hok, I.len⟩
theorem Inv.unsuite (ok : X.Ok) (I : Inv (X.suite ea) pins σ H s) : Inv X pins σ H s := ⟨ok, I.os, I.bare, I.base, I.loc, I.cell, I.free, I.freeC, I.pin, I.hok, I.len⟩
/-- the catcher's state with the exception at hand -/
theorem Inv.caught {B : Heap} {cls a0 : Value} (I : Inv X pins σ H s) (L : Lay X.prog X.w X.stack H H1 s ea B s'.heap) (os : s'.os = s.os) (bare : AllBare s'.gens) (up : s'.heap.UpToSlots h) (fl : Heap.FlyingW B X.stack ea cls a0 h) :
    Inv X pins σ (upd H1 ea (.ext (isOf ea cls))) { s' with heap := h } := by
  have hf : ∀ b o, s.heap.get? b = some o → b ∈ frs X.stack → ∀ vs, o.data ≠ .fields vs := fun b o e hb => by
    obtain ⟨_, o', ho', hd'⟩ := I.stack.mem hb
    rw [e] at ho'; cases ho'; exact hd'
  obtain ⟨ob, vs, hob, hoc, hod, _⟩ := fl.first
  have slot : ∀ b o, s.heap.get? b = some o → H b = none → b ∈ frs X.stack → ∃ sl, h.get? b = some { o with slots := sl } := fun b o e n hb => by
    obtain ⟨sl, z⟩ := L.slot b o e n hb
    obtain ⟨sl2, z2⟩ := up b { o with slots := sl } z (hf b o e hb)
    exact ⟨sl2, z2⟩
  have ne : ∀ b o, s.heap.get? b = some o → b ≠ ea := fun b o e z => by
    subst z
    by_cases hb : b ∈ frs X.stack
    · obtain ⟨sl, q⟩ := slot b o e (I.stkFree b hb) hb
      rw [hob] at q
      cases q
      exact hf b o e hb _ hod
    · obtain ⟨o', q⟩ := L.there b o e hb
      rw [fl.2.1] at q; cases q
  have hB : HOk X.prog X.w H1 h := L.hok.kept fun b u q => fl.1 b u q
  refine I.call' (s' := { s' with heap := h }) (ch := []) os ⟨fun b o e n hb _ => fl.1 b o (L.keep b o e n hb), fun b o e n hb _ => slot b o e n hb, fun b o e n _ => by rw [upd_ne (ne b o e)]; exact L.free b o e n, fun b o e _ => ?_, fun b xs e => ?_, fun b o u e => ?_, fun b ps e => ?_⟩ (fun a o e => ?_) bare (fun _ z => nomatch z)
  · by_cases hb : b ∈ frs X.stack
    · obtain ⟨sl, q⟩ := slot b o e (I.stkFree b hb) hb
      exact ⟨_, q⟩
    · obtain ⟨o', q⟩ := L.there b o e hb
      exact ⟨o', fl.1 b o' q⟩
  · have := L.tups b xs e
    rw [upd_ne (ne_of_none this L.new)]; exact this
  · have := L.frzs b o u e
    rw [upd_ne (ne_of_none this L.new)]; exact this
  · obtain ⟨more, q⟩ := L.tbls b ps e
    exact ⟨more, by rw [upd_ne (ne_of_none q L.new)]; exact q⟩
  · by_cases ha : a = ea
    · subst ha
      rw [upd_same] at e
      cases e
      exact ⟨⟨ob, hob, hoc⟩, ⟨ob, hob⟩, fun h1 h2 ⟨o, e1, e2⟩ k => ⟨o, k o e1, e2⟩⟩
    · rw [upd_ne ha] at e
      exact (hB a o e).stay (fun _ _ _ q => q) (fun c q => by rw [upd_ne (ne_of_none q L.new)]; exact q) fun c xs q => by rw [upd_ne (ne_of_none q L.new)]; exact q
/-- a name is gone -/
theorem Inv.unset {j : Nat} {n : Str} {m : Str → Option Value} {v : Option Value} {h' : Heap} {t' : Nat} (I : Inv X pins σ H s) (hN : X.N.Nodup) (hj : X.N[j]? = some n) (hn : s.heap.Ns X.env.locals m)
    (hl : ∀ (i : Nat) (x : Str) (v : V), X.N[i]? = some x → σ[i]? = some (some v) → Vis X.env.scope x → ∃ u, RelV v u ∧ Look X.env s.heap m x u)
    (hn' : h'.Ns X.env.locals (fun x => if x = n then v else m x)) (hs : Heap.SameBut X.env.locals s.heap h') : Inv X pins (σ.set j none) H { s with heap := h', toks := t' } := by
  have cne := I.cne
  obtain ⟨oL, _, _, hoL, _⟩ := id hn
  refine ⟨I.ok, I.os, I.bare, ⟨fun b o e n hb hx => ?_, fun b o e n hb hx => ?_, I.base.free, fun b o e hx => ?_, I.base.tups, I.base.frzs, I.base.tbls⟩, ⟨_, hn', fun i y v' e1 e2 e3 => ?_⟩, fun y c e => ?_, I.free, I.freeC, fun p hp => ?_, fun b ob e => ?_, by simpa using I.len⟩
  · exact (hs.2 b (Nat.ne_of_lt (Nat.lt_of_lt_of_le (Heap.lt_size e) I.ok.above))).trans (I.base.keep b o e n hb hx)
  · obtain ⟨sl, e1⟩ := I.base.slot b o e n hb hx
    exact ⟨sl, (hs.2 b (Nat.ne_of_lt (Nat.lt_of_lt_of_le (Heap.lt_size e) I.ok.above))).trans e1⟩
  · obtain ⟨o', e1⟩ := I.base.there b o e hx
    exact ⟨o', (hs.2 b (Nat.ne_of_lt (Nat.lt_of_lt_of_le (Heap.lt_size e) I.ok.above))).trans e1⟩
  · by_cases hi : i = j
    · subst hi
      by_cases hlt : i < σ.length
      · rw [List.getElem?_set_self hlt] at e2; cases e2
      · rw [List.getElem?_eq_none (by simpa using hlt)] at e2; cases e2
    · rw [List.getElem?_set_ne (Ne.symm hi)] at e2
      obtain ⟨u', r', q⟩ := hl i y v' e1 e2 e3
      refine ⟨u', r', ?_⟩
      rcases q with ⟨k, e⟩ | ⟨k, c, e, z⟩
      · refine .inl ⟨k, ?_⟩
        have : y ≠ n := fun e => hi (nodup_ix hN e1 (e ▸ hj))
        simp [this, e]
      · exact .inr ⟨k, c, e, z.sameBut hs (cne y c e)⟩
  · obtain ⟨w', z⟩ := I.cell y c e
    exact ⟨w', z.sameBut hs (cne y c e)⟩
  · obtain ⟨e, n, ne, nf, d⟩ := I.pin p hp
    exact ⟨(hs.2 p.1 ne).trans e, n, ne, nf, d⟩
  · refine (I.hok b ob e).stay (fun c w' hc q => (hs.2 c ?_).trans q) (fun _ q => q) fun _ _ q => q
    rintro rfl
    have hfree := I.free
    rcases hc with rfl | hc
    · rw [hfree] at e; cases e
    · rw [hfree] at hc; cases hc
end
/-! ### isinstance of an exception -/
/-- what the fragment must tell of an exception's class -/
def exC (K : PySem.W.Frag) (C : Addr) : Bool := PySem.W.findIn K (.ref C) "__getattribute__" == some (some (.builtin "BaseException.__getattribute__")) && PySem.W.findIn K (.ref C) "__getattr__" == some none && PySem.W.mroIn K C (.type "BaseException") == some true && PySem.W.hasDictIn K C && PySem.W.findIn K (.ref C) "__class__" == some (some (.builtin "object.__class__")) &&
  PySem.W.specialIn K (.builtin "object.__class__") "__get__" == some (some (.builtin "getset_descriptor.__get__")) && PySem.W.takesIn K (.builtin "object.__class__") == some true && PySem.W.mroIn K C (.type "object") == some true
section
open PySem.W PySem.Calls Builtin Builtin.ObjectAttr Builtin.Getset_descriptor
variable {K : PySem.W.Frag} {x C : Addr}
theorem looks_findD {M : Model} {h : Heap} {nm : Str} {a g : Value} (X : K.In h) (ha : PySem.W.findIn K (.ref C) nm = some (some a)) (hg : PySem.W.specialIn K a "__get__" = some (some g)) (ht : PySem.W.takesIn K a = some true) :
    Looks M h (find (.ref x) (.ref C) nm) (.bind g a) := by
  have l1 := PySem.W.looks_findIn (M := M) X ha
  have l2 : Looks M h (getOf (some a)) (some g) := PySem.W.looks_specialIn X hg
  have l3 := PySem.W.looks_takesIn (M := M) X ht
  exact l1.andThen (l2.andThen ((show Looks M h (dataDescriptor? (some a) (some g)) (some (g, a)) from l3.andThen .now).andThen (Looks.tag .now)))
theorem isOf_ty {M : Model} {h : Heap} (p : isOf x (.ref C) h) : Looks M h (typeOf (.ref x)) (.ref C) := by
  obtain ⟨o, h1, h2⟩ := p
  exact h2 ▸ (Looks.ld h1).andThen .now
section
open PySem.W
variable {prog : Program} {w : World} {A : Around} {E : Value → Shared → Prop} {s : Shared}
theorem xc_get {tp : Value} {R : Result → Shared → Prop} (X : K.In s.heap) (p : isOf x (.ref C) s.heap) (hm : mroIn K C (.type "object") = some true) (h : R (.ok (.ret (.ref C))) s) :
    codeAny (model prog w) A (.call (.builtin "getset_descriptor.__get__") ⟨[.builtin "object.__class__", .ref x, tp], []⟩) R s := by
  obtain ⟨hh, g, dr, t, os⟩ := s
  have L0 := isOf_ty (M := model prog w) p
  have L1 := looks_mroIn (M := model prog w) X hm
  refine codeAny_call_builtin KF.slot_gs.plain KF.entry_gs (KF.slot_gs.check _ _ _ _ _ _ _ _ KF.type_class (KF.args_gs _ _ _) ?_)
  unfold Builtin.«getset_descriptor.__get__» descrGet
  rw [dga_obj]
  refine wpAny_bind (wpAny_pure ?_)
  unfold descrGetter descrCheckInstance descrNameAndClass isInstance
  simp only [KF.owner_class]
  repeat lk
  refine ⟨Code.quiet_builtin _ (by decide +kernel), codeAny_builtin KF.entry_class ?_⟩
  unfold Builtin.«object.__class__» shownTypeOf
  repeat lk
  exact h
theorem xc_call {tk : Tok} {R : Result → Shared → Prop} (X : K.In s.heap) (p : isOf x (.ref C) s.heap) (hb : mroIn K C (.type "BaseException") = some true)
    (ha : findIn K (.ref C) "__class__" = some (some (.builtin "object.__class__"))) (hn : specialIn K (.builtin "object.__class__") "__get__" = some (some (.builtin "getset_descriptor.__get__"))) (ht : takesIn K (.builtin "object.__class__") = some true) (hm : mroIn K C (.type "object") = some true)
    (h : R (.ok (.ret (.ref C))) s) : codeAny (model prog w) A (.call (.builtin "BaseException.__getattribute__") ⟨[.ref x, .str "__class__" tk], []⟩) R s := by
  obtain ⟨hh, g, d, t, os⟩ := s
  have L0 := isOf_ty (M := model prog w) p
  have LB := looks_mroIn (M := model prog w) X hb
  have LF : Looks (model prog w) hh (find (.ref x) (.ref C) "__class__") (.bind (.builtin "getset_descriptor.__get__") (.builtin "object.__class__")) := looks_findD X ha hn ht
  have hk : builtinKind "BaseException.__getattribute__" = some .slot := by decide +kernel
  have hsp : splitId "BaseException.__getattribute__" = some ("BaseException", "__getattribute__") := by decide +kernel
  have har := F.args_bexc_ga (.ref x) (.str "__class__" tk)
  refine codeAny_call_builtin PySem.F.excAttr_ValueError.ga.plain F.entry_bexc_ga ?_
  simp only [checkBuiltinCall, hk, hsp]
  refine wpAny_bind ?_
  unfold isInstance
  repeat lk
  refine (show wpAny _ _ (PySem.run (.call (.builtin "getset_descriptor.__get__") ⟨[.builtin "object.__class__", .ref x, .ref C], []⟩)) _ _ _ from wpAny_run (xc_get (s := ⟨hh, g, d, t, os⟩) X p hm ?_))
  exact wpAny_pure (wpAny_pure h)
theorem xc_attr {Q : Option Value → Shared → Prop} (X : K.In s.heap) (p : isOf x (.ref C) s.heap) (hga : findIn K (.ref C) "__getattribute__" = some (some (.builtin "BaseException.__getattribute__"))) (hk : findIn K (.ref C) "__getattr__" = some none) (hb : mroIn K C (.type "BaseException") = some true)
    (ha : findIn K (.ref C) "__class__" = some (some (.builtin "object.__class__"))) (hn : specialIn K (.builtin "object.__class__") "__get__" = some (some (.builtin "getset_descriptor.__get__"))) (ht : takesIn K (.builtin "object.__class__") = some true) (hm : mroIn K C (.type "object") = some true)
    (q : Q (some (.ref C)) { s with toks := s.toks + 1 }) : wpAny (model prog w) A (getAttr? (.ref x) "__class__") Q E s := by
  obtain ⟨hh, g, d, t, os⟩ := s
  have L0 := isOf_ty (M := model prog w) p
  have L1 := looks_findIn (M := model prog w) X hga
  have L2 := looks_findIn (M := model prog w) X hk
  have fb := PySem.F.excAttr_ValueError.ga.bind (.ref x)
  unfold getAttr? getAttrBy? getAttrBy
  refine wpAny_bind (wpAny_mkText (wpAny_bind (wpAny_attempt (wpAny_holding (wpAny_bind (L0.at (wpAny_bind (L1.at ?_))))))))
  show wpAny _ _ (getAttrByItsOwn (.ref x) _ (.ref C) (.builtin "BaseException.__getattribute__") false false) _ _ _
  unfold getAttrByItsOwn
  refine wpAny_bind (m := hookBefore (.ref C)) (L2.at ?_)
  refine wpAny_bind (wpAny_attempt (wpAny_holding (wpAny_bind (wpAny_of_eq fb (wpAny_call (xc_call (s := ⟨hh, g, d, t + 1, os⟩) X p hb ha hn ht hm ?_))))))
  exact handed_on rfl (wpAny_pure q)
theorem kitx_exc (hx : exC K C = true) : KitX K (.ref x) (.ref C) (isOf x (.ref C)) := by
  unfold exC at hx
  simp only [Bool.and_eq_true, beq_iff_eq] at hx
  obtain ⟨⟨⟨⟨⟨⟨⟨hga, hk⟩, hb⟩, hdct⟩, ha⟩, hn⟩, ht⟩, hm⟩ := hx
  obtain ⟨cdD, hcD, _⟩ := any_some hdct
  unfold clsIn at hcD
  split at hcD
  · rename_i c' d' cd' sl' ho
    refine ⟨fun M h _ p => isOf_ty p, fun M h X _ A' Q' E' s' k q => ?_, fun h tp dd its n sl X htp => Bool.eq_false_iff.mpr fun q => ?_, fun X p k => xc_attr X p hga hk hb ha hn ht hm k⟩
    · unfold isType loadHead
      exact wpAny_bind (wpAny_loadPart (k _ _ (X _ _ ho)) (wpAny_pure q))
    · have e : C = tp := Value.ref.inj (beq_iff_eq.mp q)
      subst e
      have z := (X _ _ ho).symm.trans htp
      cases z
  · cases hcD
end
end
/-- a class as isinstance takes it -/
inductive IsCls : V → Value → Prop where
  | ref (a : Addr) : IsCls (.ref a) (.ref a)
  | ty (n : String) : IsCls (.ty n) (.type n)
section
variable {X : Cx}
theorem call_isinstE : CallR X (.builtin "isinstance") (fun xs H Q => ∃ a C c u b, xs = [.ref a, c] ∧ H a = some (.ext (isOf a (.ref C))) ∧ exC X.K C = true ∧ IsCls c u ∧ PySem.W.kitOne X.K (.ref C) u = some b ∧ Q (.bl b) H) := by
  intro pins s σ H xs us Q I r h
  obtain ⟨a, C, c, u, b, rfl, ha, hx, hc, e, q⟩ := h
  obtain ⟨v, u', rfl, ru, rv⟩ := vals2 r
  cases (show v = Value.ref a from ru)
  have eu : u' = u := by
    cases hc with
    | ref a' => exact rv
    | ty n => exact rv
  subst eu
  obtain ⟨p, _, _⟩ := (show ObjOk X.prog X.w H s.heap a (.ext (isOf a (.ref C))) from I.hok a _ ha)
  exact PySem.W.kia_one (kitx_exc hx) I.kIn p e (fun z => nomatch z) fun tk => ⟨.bl b, H, I.tok _, rfl, q⟩
theorem call_isinstK {K : PySem.W.Frag} (hK : X.K = K) : CallR X (.builtin "isinstance") (fun xs H Q => ∃ a C c u b, xs = [.ref a, c] ∧ H a = some (.ext (isOf a (.ref C))) ∧ exC K C = true ∧ IsCls c u ∧ PySem.W.kitOne K (.ref C) u = some b ∧ Q (.bl b) H) := by
  subst hK; exact call_isinstE
theorem pe_cls {n : Str} {C : Addr} {pos : Pos} (hm : X.mg n = some (.ref C)) (hg : Gl X n := by rfl) (hd : (n == ("__debug__" : Str)) = false := by decide) : PE X (.Name n pos) (tC (.ref C)) :=
  fun pins s σ H Q I h => ld_glob I hg hm ⟨.ref C, H, I, rfl, h⟩ hd
end
theorem pu_isE {K : PySem.W.Frag} {σ : St} {H : Hp} {t : TA} {a C : Addr} {c : V} {u : Value} {b : Bool} (ha : PuA t σ H [.ref a, c]) (h : H a = some (.ext (isOf a (.ref C)))) (hx : exC K C = true) (hc : IsCls c u) (e : PySem.W.kitOne K (.ref C) u = some b) :
    Pu (tCB (fun xs H Q => ∃ a C c u b, xs = [.ref a, c] ∧ H a = some (.ext (isOf a (.ref C))) ∧ exC K C = true ∧ IsCls c u ∧ PySem.W.kitOne K (.ref C) u = some b ∧ Q (.bl b) H) t) σ H (.bl b) := fun _ q => ha _ ⟨a, C, c, u, b, rfl, h, hx, hc, e, q⟩
end L2

set_option linter.all false
set_option maxRecDepth 100000
set_option maxHeartbeats 4000000
namespace L2
open PySem PySem.Spec PyProof.Rows
/-! ### dict(a list of pairs), the keys tuples -/
end L2

set_option linter.all false
set_option maxRecDepth 100000
set_option maxHeartbeats 4000000
namespace L2
open PySem PySem.Spec PyProof.Rows
end L2

set_option linter.all false
set_option maxRecDepth 100000
set_option maxHeartbeats 4000000
namespace L2
open PySem PySem.Spec PyProof.Rows
end L2

set_option linter.all false
set_option maxRecDepth 100000
set_option maxHeartbeats 4000000
namespace L2
open PySem PySem.Spec PyProof.Rows
/-! ### the keys walked -/
end L2

set_option linter.all false
set_option maxRecDepth 100000
set_option maxHeartbeats 4000000
namespace L2
open PySem PySem.Spec PyProof.Rows
end L2

set_option linter.all false
set_option maxRecDepth 100000
set_option maxHeartbeats 4000000
namespace L2
open PySem PySem.Spec PyProof.Rows
end L2

set_option linter.all false
set_option maxRecDepth 100000
set_option maxHeartbeats 4000000
namespace L2
open PySem PySem.Spec PyProof.Rows
end L2

set_option linter.all false
set_option maxRecDepth 100000
set_option maxHeartbeats 4000000
namespace L2
open PySem PySem.Spec PyProof.Rows PySem.W
end L2

set_option linter.all false
set_option maxRecDepth 100000
set_option maxHeartbeats 4000000
namespace L2
open PySem PySem.Spec PyProof.Rows
end L2

set_option linter.all false
set_option maxRecDepth 100000
set_option maxHeartbeats 4000000
namespace L2
open PySem PySem.Spec PyProof.Rows
theorem cutV_drop (xs : List V) {k : Nat} (h : k ≤ xs.length) : cutV xs (some (k : Int)) none = xs.drop k := by
  have e1 : HT.sIx xs.length 0 (some (k : Int)) = k := by
    unfold HT.sIx
    simp only []
    split <;> omega
  have e2 : HT.sIx xs.length xs.length none = xs.length := rfl
  unfold cutV
  rw [e1, e2]
  exact List.take_of_length_le (by rw [List.length_drop]; exact Nat.le_refl _)
theorem same_updNew {H H' : Hp} {r : Addr} {o : HO} (s : Same H H') (h : H r = none) : Same H (L2.upd H' r o) := fun b u e => by
  rw [upd_ne (ne_of_none e h)]
  exact s b u e
section
variable {σ : St} {H : Hp} {D : Ends} {rest : TS} {te to : TE} {l : Addr} {xs : List V} {K : PySem.W.Frag}
theorem st_app {R : V → Hp → Prop} (ho : Pu to σ H (.ref l)) (hl : H l = some (.lst xs)) (he : Gv te σ H R) (q : ∀ v H', R v H' → ∃ ys, H' l = some (.lst ys) ∧ ys.length < sizeLine ∧ rest D σ (upd H' l (.lst (ys ++ [v])))) :
    tSeq (tDrop (tBM K "list" rAppend to (tCons te tNil))) rest D σ H := st_app1 (D := { D with nx := rest D }) ho hl he q
theorem gv_from {k : Nat} {tk : TE} (ho : Pu to σ H (.ref l)) (hk : Pu tk σ H (.int k)) (hl : SqL K H l xs) (hkl : k ≤ xs.length) : Gv (tSl (rSlL K) to (tPart tk) tNoPart) σ H (fun v H' => ∃ p, H p = none ∧ v = .ref p ∧ H' = upd H p (.lst (xs.drop k))) := fun Q q =>
  ho _ (hk _ ⟨k, rfl, l, xs, rfl, hl, fun p hp => by rw [cutV_drop xs hkl]; exact q _ _ ⟨p, hp, rfl, rfl⟩⟩)
end
end L2

set_option linter.all false
set_option maxRecDepth 100000
set_option maxHeartbeats 4000000
namespace L2
open PySem PySem.Spec PyProof.Rows
end L2

set_option linter.all false
set_option maxRecDepth 100000
set_option maxHeartbeats 4000000
namespace L2
open PySem PySem.Spec PyProof.Rows
end L2

set_option linter.all false
set_option maxRecDepth 100000
set_option maxHeartbeats 4000000
namespace L2
open PySem PySem.Spec PyProof.Rows
section
variable {X : Cx}
/-- a comprehension with two own names and one caught name -/
theorem pe_lcompC2 {x1 x2 y : Str} {tg elt iter : Expr} {g : TG} {scope : Scope} {c : Addr} {pos : Pos} {wi : TI} {te : TE} (j : Nat)
    (hc : X.calm = true) (hi : PI X tg iter wi)
    (hg : ∀ C fp s0 H0, PG (blk X [x1, x2, y] scope [(y, c)] C fp s0 H0) tg g) (he : ∀ C fp s0 H0, PE (blk X [x1, x2, y] scope [(y, c)] C fp s0 H0) elt te)
    (hclos : closureFor scope X.env = pure [(y, c)]) (hkind : scope.kind = .function) (hnames : ∀ x ∈ scope.names, x.2 = .local → scope.names.lookup x.1 = some .local) (hcell : ∀ y ∈ scope.names, y.2 ≠ .cell)
    (hcy : X.env.cells.lookup y = some c) (hNj : X.N[j]? = some y) (hk : X.env.kindOf y = some .cell) (hrel : (relabel scope X.env).names.lookup y = some .cell)
    (hall : ((relabel scope X.env).names.all fun p => (p.2 != .cell && p.2 != .free) || p.1 == y) = true)
    (hs : ∀ x, foldedSetIterable iter X.env x = pure x := by intro _; rfl) :
    PE X (.ListComp elt [⟨tg, iter, [], 0⟩] scope pos) (tComp wi (fun σ => [none, none, (σ[j]?).join]) g te) := by
  refine pe_lcomp (N' := [x1, x2, y]) (cl := [(y, c)]) hc hi hg he hclos hkind hnames hcell (fun y' c' h => ?_) (fun y' h => ?_) (fun _ _ => rfl) (fun σ i y' v e1 e2 => ?_) hs
  · obtain ⟨rfl, rfl⟩ := lookup_one h
    exact hcy
  · rw [List.all_eq_true] at hall
    have key : ∀ k, (k = .cell ∨ k = .free) → (relabel scope X.env).names.lookup y' = some k → y' = y := fun k hk e => by
      have := hall _ (lookup_mem e)
      rcases hk with rfl | rfl
      · simpa using this
      · simpa using this
    have e : y' = y := by
      rcases h with h | h
      · exact key _ (.inl rfl) h
      · exact key _ (.inr rfl) h
    subst e
    exact ⟨c, by rw [List.lookup_cons, beq_self_eq_true]⟩
  · match i, e1, e2 with
    | 0, _, e2 => cases e2
    | 1, _, e2 => cases e2
    | 2, e1, e2 =>
      have e1' : y = y' := by simpa using e1
      subst e1'
      have e2' : (σ[j]?).join = some v := by simpa using e2
      refine ⟨j, hNj, ?_, hk, hrel⟩
      cases h : σ[j]? with
      | none => rw [h] at e2'; cases e2'
      | some o => rw [h] at e2'; have : o = some v := e2'; rw [this]
    | i + 3, e1, _ => simp at e1
end
end L2

set_option linter.all false
set_option maxRecDepth 100000
set_option maxHeartbeats 4000000
namespace L2
open PySem PySem.Spec PyProof.Rows
/-! ### rows of points, laid -/
end L2

set_option linter.all false
set_option maxRecDepth 100000
set_option maxHeartbeats 4000000
namespace L2
open PySem PySem.Spec PyProof.Rows
theorem same_none {H H' : Hp} {p : Addr} (s : Same H H') (h : H' p = none) : H p = none := by
  cases e : H p with
  | none => rfl
  | some o => rw [s _ _ e] at h; cases h
end L2

set_option linter.all false
set_option maxRecDepth 100000
set_option maxHeartbeats 4000000
namespace L2
open PySem PySem.Spec PyProof.Rows
section
variable {X : Cx}
/-- a comprehension's reading, whatever is done with its list at the end (a name may take it before the block is left) -/
def CompR (X : Cx) (e : Expr) (scope : Scope) (iter : Expr) (t : TE) : Prop := ∀ (pins : List (Addr × Obj)) (s : Shared) (σ : St) (H : Hp) (Q : VK) (use : Option (Value → Sem Unit)) (Q' : Value → Shared → Prop) (fpos : Pos), Inv X pins σ H s → t σ H Q →
  (∀ D C m s5 H4 r, s5.heap.Ns C m → FpOk X pins H4 C → Inv X pins σ H4 s5 → Q (.ref D) H4 → compPost (model X.prog X.w) X.A X.xe use Q' (.ref D) C (.ok r) s5) →
  wpAny (model X.prog X.w) X.A (comprehension e scope X.env fpos (newList []) false (eval iter X.env) use) Q' X.xe s
theorem cr_lcomp {tg elt iter : Expr} {scope : Scope} {cl : List (Str × Addr)} {pos : Pos} {N' : List Str} {wi : TI} {fr : St → St} {g : TG} {te : TE}
    (hc : X.calm = true) (hi : PI X tg iter wi)
    (hg : ∀ C fp s0 H0, PG (blk X N' scope cl C fp s0 H0) tg g) (he : ∀ C fp s0 H0, PE (blk X N' scope cl C fp s0 H0) elt te)
    (hclos : closureFor scope X.env = pure cl) (hkind : scope.kind = .function) (hnames : ∀ x ∈ scope.names, x.2 = .local → scope.names.lookup x.1 = some .local) (hcell : ∀ y ∈ scope.names, y.2 ≠ .cell)
    (hcl : ∀ y c, cl.lookup y = some c → X.env.cells.lookup y = some c) (hhas : ∀ y, ((relabel scope X.env).names.lookup y = some .cell ∨ (relabel scope X.env).names.lookup y = some .free) → ∃ c, cl.lookup y = some c)
    (hfl : ∀ σ : St, σ.length = X.N.length → (fr σ).length = N'.length)
    (hfr : ∀ (σ : St) (i : Nat) (y : Str) (v : V), N'[i]? = some y → (fr σ)[i]? = some (some v) → ∃ j : Nat, X.N[j]? = some y ∧ σ[j]? = some (some v) ∧ X.env.kindOf y = some .cell ∧ (relabel scope X.env).names.lookup y = some .cell)
    (hs : ∀ x, foldedSetIterable iter X.env x = pure x := by intro _; rfl) :
    CompR X (.ListComp elt [⟨tg, iter, [], 0⟩] scope pos) scope iter (tComp wi fr g te) := by
  intro pins s σ H Q use Q' fpos I h fin
  refine wpAny_comprehension_free (use := use) rfl hs hclos hkind hnames ?_
  refine thn (hi pins s σ H _ I h) fun v s1 h1 => thn h1 fun itv s2 h2 => ?_
  obtain ⟨it, fp, tn, J, H2, rfl, I2, T, st2, f2, q2⟩ := h2
  have D0 : H2 s2.heap.objs.size = none := I2.hok.fresh (Nat.le_refl _)
  obtain ⟨W, ⟨m0, w0⟩, turn⟩ := q2 _ D0
  refine wpAny_newObj_type (wpAny_newFunctionEnv hcell (by intro y hy; simp at hy) (fun h₁ hns₁ hsb₁ => ?_) hkind)
  dsimp only at hns₁ hsb₁ ⊢
  have I3 : Inv X pins σ (upd H2 s2.heap.objs.size (.lst [])) { s2 with heap := s2.heap.push { cls := .type "list", dict := none, data := .seq ([] : List Value).toArray } } :=
    I2.laid (t' := s2.toks) (fun b u e => Heap.get?_push_of_some _ e) (Nat.le_refl _) ⟨Nat.zero_le _, [], _, .nil, Heap.get?_push_size _ rfl⟩
  generalize hH3 : upd H2 s2.heap.objs.size (.lst []) = H3 at I3 w0
  generalize hs3 : ({ s2 with heap := s2.heap.push { cls := .type "list", dict := none, data := .seq ([] : List Value).toArray } } : Shared) = s3 at I3
  have eh : s3.heap = s2.heap.push { cls := .type "list", dict := none, data := .seq ([] : List Value).toArray } := by rw [← hs3]
  have fl : ∀ b ∈ fp, b < s2.heap.objs.size := fun b hb => by
    obtain ⟨o, e, _⟩ := T.obj 0 _ st2 b hb
    exact Heap.lt_size e
  have fn : ∀ b ∈ fp, H3 b = none := fun b hb => by
    rw [← hH3, upd_ne (Nat.ne_of_lt (fl b hb))]; exact (f2 b hb).1
  have f3 : ∀ b ∈ fp, FpOk X pins H3 b := fun b hb => ⟨fn b hb, (f2 b hb).2⟩
  have old : ∀ b u, s3.heap.get? b = some u → h₁.get? b = some u := fun b u e => by
    refine hsb₁.extBut b u ?_ (Heap.get?_push_of_some _ (by rw [← eh]; exact e))
    have := Heap.lt_size e
    rw [eh] at this
    exact Nat.ne_of_lt this
  have up : ∀ b u, s2.heap.get? b = some u → s3.heap.get? b = some u := fun b u e => by rw [eh]; exact Heap.get?_push_of_some _ e
  have ok := blk_ok (N' := N') (scope := scope) (cl := cl) (fp := fp) I3 hkind hcl hhas f3 fun b hb => by rw [eh, Heap.size_push]; exact Nat.lt_succ_of_lt (fl b hb)
  rw [← eh] at hns₁ ⊢
  have IB : Inv (blk X N' scope cl s3.heap.objs.size fp s3 H3) [] (fr σ) H3 { s3 with heap := h₁, toks := s2.toks + ([] : List (Str × Value)).length } := by
    refine ⟨ok, rfl, I3.bare, Un.kept old, ⟨_, hns₁, fun i y v e1 e2 e3 => ?_⟩, fun x c e => ?_, I3.hok.fresh (Nat.le_refl _), fun x c e => I3.freeC x c (hcl x c e), fun p hp => by simp [blk] at hp, I3.hok.kept old, hfl σ I3.len⟩
    · obtain ⟨j, n1, n2, n3, n4⟩ := hfr σ i y v e1 e2
      obtain ⟨m, _, hl⟩ := I3.loc
      obtain ⟨u, r, l⟩ := hl j y v n1 n2 (.inr (.inl n3))
      refine ⟨u, r, .inr ⟨.inl n4, ?_⟩⟩
      rcases l with ⟨k, _⟩ | ⟨_, c, e, ic⟩
      · rw [n3] at k; cases k
      · obtain ⟨c', e'⟩ := hhas y (.inl n4)
        have e'' := hcl y c' e'
        rw [e] at e''; cases e''
        obtain ⟨o, ho, hd⟩ := ic
        exact ⟨c, e', o, old c o ho, hd⟩
    · obtain ⟨v, o, ho, hd⟩ := I3.cell x c (hcl x c e)
      exact ⟨v, o, old c o ho, hd⟩
  have stB : tn 0 h₁ := T.keep _ _ _ st2 fun b hb o e => old b o (up b o e)
  have D2 : s2.heap.objs.size < s3.heap.objs.size := by rw [eh, Heap.size_push]; exact Nat.lt_succ_self _
  have stat : ∀ {H' : Hp}, (∀ b ∈ fp, H' b = none) → ∀ b ∈ fp, FpOk (blk X N' scope cl s3.heap.objs.size fp s3 H3) [] H' b := fun hn b hb =>
    ⟨hn b hb, Nat.ne_of_lt (Nat.lt_trans (fl b hb) D2), ok.exfs b hb, .inl hb, fun x c e => (ok.exf b hb).2 x c e, fun p hp => by simp [blk] at hp⟩
  have loop : codeAny (model X.prog X.w) X.A (.compLoop (.ListComp elt [⟨tg, iter, [], 0⟩] scope pos) 0 (.ref it) (.ref s2.heap.objs.size) (compEnvC scope cl s3.heap.objs.size X.env))
      (compPost (model X.prog X.w) X.A X.xe use Q' (.ref s2.heap.objs.size) s3.heap.objs.size) { s3 with heap := h₁, toks := s2.toks + ([] : List (Str × Value)).length } := by
    refine codeAny_loop rfl (fun n s' => ∃ i ys H', Inv (blk X N' scope cl s3.heap.objs.size fp s3 H3) [] (fr σ) H' s' ∧ tn i s'.heap ∧ (∀ b ∈ fp, H' b = none) ∧ W i n ys H') ?_ m0 ⟨0, [], H3, IB, stB, fn, w0⟩
    rintro n s4 ⟨i, ys, H4, I4, st4, fr4, w4⟩
    show wpAny _ _ ((compTurn (.ListComp elt [⟨tg, iter, [], 0⟩] scope pos) 0 (.ref it) (.ref s2.heap.objs.size) (compEnvC scope cl s3.heap.objs.size X.env)).onRaise (fun x => do noteFrame x (compEnvC scope cl s3.heap.objs.size X.env); theTreesLotGoes x)) _ _ s4
    refine wpAny_noted ?_
    rw [compTurn_list1]
    refine wpAny_bind (wpAny_standAt (wpAny_bind ?_))
    rcases turn i n ys H4 w4 with ⟨stop, qn⟩ | ⟨go, hz, step⟩
    · refine thn (T.done (blk X N' scope cl s3.heap.objs.size fp s3 H3) rfl rfl rfl hc i [] s4 (fr σ) H4 _ I4 (stat fr4) st4 stop) fun r s5 ⟨hr, I5⟩ => ?_
      subst hr
      refine wpAny_pure ?_
      obtain ⟨m, hn, _⟩ := I5.loc
      have hlt : ∀ b u, s3.heap.get? b = some u → b ≠ s3.heap.objs.size := fun b u e => Nat.ne_of_lt (Heap.lt_size e)
      have B := I5.base
      refine fin _ _ m s5 H4 _ hn (I3.fpOk (Nat.le_refl _) I5.free) ?_ qn
      refine I3.call' (s' := s5) (ch := fp) I5.os ⟨fun b o e n1 n2 n3 => B.keep b o e n1 n2 n3, fun b o e n1 n2 n3 => B.slot b o e n1 n2 n3, B.free, fun b o e n1 => B.there b o e n1, B.tups, B.frzs, B.tbls⟩ (fun a o e => I5.hok a o e) I5.bare (fun b hb' => ?_)
      exact ⟨(f2 b hb').2.2.2.1, (f2 b hb').2.1, (f2 b hb').2.2.2.2.1, (f2 b hb').2.2.2.2.2⟩
    · refine thn (T.item (blk X N' scope cl s3.heap.objs.size fp s3 H3) rfl rfl rfl hc i [] s4 (fr σ) H4 _ I4 (stat fr4) st4 go) fun r s5 ⟨u, hr, h5⟩ => ?_
      subst hr
      refine wpAny_bind (thn h5 fun _ s6 ⟨x, H6, I6, r6, y6, st6, fr6⟩ => ?_)
      have I6' := I6.pinned (stat fr6) (T.obj _ _ st6)
      refine wpAny_bind (wpAny_mono (hg s3.heap.objs.size fp s3 H3 _ s6 (fr σ) H6 x u _ I6' r6 (step x H6 y6)) (fun _ s7 ⟨σ7, H7, I7, kp, q7⟩ => ?_) fun _ _ z => z.elim)
      refine wpAny_bind (wpAny_bind (wpAny_mono (he s3.heap.objs.size fp s3 H3 _ s7 σ7 H7 _ I7 q7) (fun v8 s8 ⟨y8, H8, I8, r8, hD, m', hm, w8⟩ => ?_) fun _ _ z => z.elim))
      have ap := mt_append (X := blk X N' scope cl s3.heap.objs.size fp s3 H3) _ s8 σ7 H8 (.ref s2.heap.objs.size) [y8] (.ref s2.heap.objs.size) [v8] (fun _ H9 => W (i + 1) m' (ys ++ [y8]) H9) I8 rfl (.cons r8 .nil) ⟨_, ys, y8, rfl, rfl, hD, hz, w8⟩
      refine wpAny_bind (wpAny_mono ap (fun _ s9 ⟨_, H9, I9, _, w9⟩ => wpAny_pure (wpAny_pure ⟨rfl, m', hm, i + 1, ys ++ [y8], H9, ?_, ?_, ?_, w9⟩)) fun _ _ z => z.elim)
      · exact I9.unpinned.weak (by rw [kp.1]) kp.2
      · exact T.keep _ _ _ st6 fun b hb o e => (I9.pin (b, o) (List.mem_append_right _ (List.mem_append_right _ (mem_pinsAt hb e)))).1
      · intro b hb
        obtain ⟨o, e, d⟩ := T.obj _ _ st6 b hb
        exact (I9.pin (b, o) (List.mem_append_right _ (List.mem_append_right _ (mem_pinsAt hb e)))).2.1
  subst hs3
  exact codeAny_compStart_list loop (T.self X.A 0 _ _ _ stB loop)
/-- a name takes a comprehension's list -/
theorem ps_setC {i : Nat} {y : Str} {py spos : Pos} {elt iter tg : Expr} {scope : Scope} {pos : Pos} {t : TE} (hN : X.N.Nodup) (hi : X.N[i]? = some y) (hx : X.env.scope.names.lookup y = some .local) (h : CompR X (.ListComp elt [⟨tg, iter, [], 0⟩] scope pos) scope iter t)
    (hsw : swapsWith (.ListComp elt [⟨tg, iter, [], 0⟩] scope pos) (some (.Name y py)) spos.line X.env = pure true := by rfl) : PS X (.Assign [.Name y py] (.ListComp elt [⟨tg, iter, [], 0⟩] scope pos) spos) (tAsg t (gName i)) := by
  intro pins s σ H D I hw
  rw [exec_Assign_Name_used _ _ _ _ hsw]
  refine wpAny_bind (wpAny_standAt (wpAny_bind ?_))
  show wpAny _ _ (do let _ ← comprehension (.ListComp elt [⟨tg, iter, [], 0⟩] scope pos) scope X.env _ (newList []) false (eval iter X.env) (some (assign (.Name y py) X.env))) _ _ _
  refine wpAny_bind (wpAny_mono (h pins { s with } σ H _ (some (assign (.Name y py) X.env)) (fun _ s' => SP X pins D .next s') _ I hw fun D' C m s5 H4 r hn f I5 q => ?_) (fun _ s' hq => wpAny_pure (wpAny_pure hq)) fun _ _ e => e)
  refine wpAny_assign_Name (store_ok2 I5 hN hi (Or.inl hx) (v := .ref D') rfl (fun s6 I6 ⟨a, sb, ha⟩ => ?_) (.inr hx))
  have na : C ≠ a := by
    rcases ha with e | e
    · rw [e]; exact f.2.1
    · exact Ne.symm (f.2.2.2.2.1 y a e)
  refine ⟨m, hn.sameBut sb na, fun h' sb' => ⟨_, H4, ?_, q⟩⟩
  exact I6.turned (t' := s6.toks) (fun b o hb e => sb'.extBut b o hb e) f.1 f.2.1 f.2.2.2.1 f.2.2.2.2.1 f.2.2.2.2.2
end
end L2

set_option linter.all false
set_option maxRecDepth 100000
set_option maxHeartbeats 4000000
namespace L2
open PySem PySem.Spec PyProof.Rows
theorem gv_cb1 {σ : St} {H : Hp} {r : List V → Hp → VK → Prop} {te : TE} {R R' : V → Hp → Prop} (h : Gv te σ H R) (f : ∀ v H', R v H' → ∀ Q : VK, (∀ w H'', R' w H'' → Q w H'') → r [v] H' Q) : Gv (tCB r (tCons te tNil)) σ H R' := fun Q q => h _ fun v H' rv => f v H' rv Q q
end L2

set_option linter.all false
set_option maxRecDepth 100000
set_option maxHeartbeats 4000000
namespace L2
open PySem PySem.Spec PyProof.Rows
section
variable {σ : St} {H : Hp} {D : Ends} {rest : TS} {ta tb te to : TE} {b : Bool} {k : Nat} {v0 : V} {i j : Int} {l : Addr} {xs : List V} {K : PySem.W.Frag} {t : TA}
theorem st_ifRG {tc : TT} {u : TS} {RB : Bool → Hp → Prop} (R : St → Hp → Prop) (hc : GvT tc σ H RB) (h1 : ∀ H1, RB true H1 → ∀ D' : Ends, (∀ σ' H', R σ' H' → D'.nx σ' H') → D'.rt = D.rt → u D' σ H1) (h0 : ∀ H1, RB false H1 → R σ H1) (q : ∀ σ' H', R σ' H' → rest D σ' H') : tSeq (tIfS tc u tNext) rest D σ H :=
  st_ifNG hc (fun H1 e => h1 H1 e _ q rfl) (fun H1 e => q _ _ (h0 H1 e))
end
theorem Same.rfl' {H : Hp} : Same H H := fun _ _ e => e
end L2

set_option linter.all false
set_option maxRecDepth 100000
set_option maxHeartbeats 4000000
namespace L2
open PySem PySem.Spec PyProof.Rows
section
variable {P : Program} {w : World} {K : PySem.W.Frag} {mg : Str → Option Value} {base : Heap} {N : List Str} {qual : Str} {scope : Scope} {f : Addr} {cd : Value} {A : Around} {outer : List Env} {s : Shared} {H : Hp} {E : XK}
/-- an exception of a callee goes on through this frame -/
theorem passX : Passes (CXE P w) (cxOf (CXE P w) P w K mg base N qual scope f cd A outer s H E) E := by
  rintro pins σ H1 s1 e s' I ⟨ea, t, H2, cls, B, rfl, os, bare, hE, fl, L⟩
  refine wpAny_leaves_onW I.ok.frames rfl fl fun h' fl' up => ?_
  have nf : ∀ {b : Addr} {o : Obj}, s.heap.get? b = some o → b ∉ frs outer → b ∉ frs (envOfC qual scope s.heap.objs.size f cd :: outer) := fun {b o} e n z => by
    have z' : b ∈ s.heap.objs.size :: frs outer := z
    rcases List.mem_cons.mp z' with q | q
    · exact absurd (Heap.lt_size e) (by rw [q]; exact Nat.lt_irrefl _)
    · exact n q
  have inn : ∀ {b : Addr}, b ∈ frs outer → b ∈ frs (envOfC qual scope s.heap.objs.size f cd :: outer) := fun {b} h => by
    show b ∈ s.heap.objs.size :: frs outer
    exact List.mem_cons_of_mem _ h
  have fre : ∀ b o, s.heap.get? b = some o → H b = none → H1 b = none := fun b o q n => I.base.free b o q n (by exact List.not_mem_nil)
  refine ⟨ea, t, H2, cls, B, rfl, os.trans I.os, bare, hE, fl', ⟨L.hok, L.new, fun b o q n hb => ?_, fun b o q n hb => ?_, fun b o q hb => ?_, fun b o q n => ?_, fun b xs q => L.tups b xs (I.base.tups b xs q), fun b o u q => L.frzs b o u (I.base.frzs b o u q), fun b ps q => ?_⟩⟩
  · exact L.keep b o (I.base.keep b o q n hb List.not_mem_nil) (fre b o q n) (nf q hb)
  · obtain ⟨sl, z⟩ := I.base.slot b o q n hb List.not_mem_nil
    obtain ⟨sl2, z2⟩ := L.slot b _ z (fre b o q n) (inn hb)
    obtain ⟨_, o', ho', hd'⟩ := I.ok.funs.mem hb
    rw [show (cxOf (CXE P w) P w K mg base N qual scope f cd A outer s H E).s₀.heap.get? b = some o from q] at ho'
    cases ho'
    obtain ⟨sl3, z3⟩ := up b _ z2 hd'
    exact ⟨sl3, z3⟩
  · obtain ⟨o', z⟩ := I.base.there b o q List.not_mem_nil
    exact L.there b o' z (nf q hb)
  · obtain ⟨sl, z⟩ := I.base.any q n List.not_mem_nil
    exact L.free b _ z (fre b o q n)
  · obtain ⟨m1, z1⟩ := I.base.tbls b ps q
    obtain ⟨m2, z2⟩ := L.tbls b _ z1
    exact ⟨m1 ++ m2, by rw [z2, Array.append_assoc]⟩
end
section
variable {X : Cx} {k j : Nat} {f : Addr} {fd : FuncData} {ps : List Str} {sp : Sp} {x : Str} {st : Stmt} {p pos : Pos} {e : Expr} {es : List Expr} {t : TA} {E : XK} {P : Program} {w : World}
/-- a call of a def that may raise, the exception going on -/
theorem pe_fnX (T : Fn X.K X.mg x st f fd ps) (G : FnOk X.prog X.w X.K X.mg X.base (CXE P w) k f fd ps sp) (hr : Room j X.A) (hj : k ≤ j) (hx : Passes (CXE P w) X E) (ha : PA X (e :: es) t) (hg : Gl X x := by rfl) (hdb : (x == ("__debug__" : Str)) = false := by decide)
    (he : starEach (e :: es) X.env = (false, eval e X.env) :: starEach es X.env := by rfl) (hpl : (backTo pos (starEach es X.env)).any (·.1) = false := by rfl) : PE X (.Call (.Name x p) (e :: es) [] pos) (tCall sp [] E t) :=
  pe_call G (hr.mono hj) hg T.m T.F.kp T.b .nil hx ha hdb he hpl
end
/-- of a def that is never reached nothing is asked -/
def spNo : Sp := fun _ _ _ _ => False
theorem Fun.okNo {P : Program} {w : World} {K : PySem.W.Frag} {mg : Str → Option Value} {base : Heap} {x qual : Str} {st : Stmt} {f : Addr} {fd : FuncData} {N ps : List Str} (F : Fun K x qual st f fd) (S : FnScope N ps (defScope st)) : FnOk P w K mg base CX0 1 f fd ps spNo :=
  F.ok (k := 0) S (fun _ _ _ _ h => h.elim) fun _ _ _ _ _ _ _ _ _ h => h.elim
/-! ### {} -/
/-! ### try: f(..) except C as n: .., with return -/
section
variable {X : Cx} {pins : List (Addr × Obj)} {σ : St} {H H1 : Hp} {s s' : Shared} {h : Heap} {ea : Addr}
def tTryE (j : Nat) (K : PySem.W.Frag) (C : Addr) (sp : Sp) (ta : TA) (ts : TS) : TS := fun D σ H => ta σ H fun vs H1 => sp vs H1 (fun _ H2 => D.nx σ H2)
  (fun cls _ H2 => PySem.W.exmOne K cls (.ref C) = some true ∧ ∀ ea, H2 ea = none → ts { nx := fun σ' H' => D.nx (σ'.set j none) H', rt := fun v H' => D.rt v H', bk := fun _ _ => False, ct := fun _ _ => False } (σ.set j (some (.ref ea))) (upd H2 ea (.ext (isOf ea cls))))
theorem st_tryE {j : Nat} {K : PySem.W.Frag} {C : Addr} {sp : Sp} {ta : TA} {ts rest : TS} {D : Ends} {vs : List V} (ha : PuA ta σ H vs)
    (h : sp vs H (fun _ H2 => rest D σ H2) (fun cls _ H2 => PySem.W.exmOne K cls (.ref C) = some true ∧ ∀ ea, H2 ea = none → ts { nx := fun σ' H' => rest D (σ'.set j none) H', rt := fun v H' => D.rt v H', bk := fun _ _ => False, ct := fun _ _ => False } (σ.set j (some (.ref ea))) (upd H2 ea (.ext (isOf ea cls))))) : tSeq (tTryE j K C sp ta ts) rest D σ H := ha _ h
theorem ps_tryE {j k : Nat} {fn cn n : Str} {pf pc pa np hp pos : Pos} {f C : Addr} {fd : FuncData} {ps : List Str} {sp : Sp} {e : Expr} {es : List Expr} {ta : TA} {ts : TS} {b₀ : Stmt} {suite : List Stmt}
    (hxe : X.xe = fun _ _ => False) (hstk : X.stack = X.env :: X.outer) (hfr : X.env.frame = some X.env.locals) (hcalm : X.calm = true)
    (G : FnOk X.prog X.w X.K X.mg X.base (CXE X.prog X.w) k f fd ps sp) (hr : Room k X.A) (hgf : Gl X fn) (hmf : X.mg fn = some (.ref f)) (hkf : PySem.W.keepIn X.K (.ref f) = true) (hb : Binds X.K fd ps []) (ha : PA X (e :: es) ta)
    (hN : X.N.Nodup) (hj : X.N[j]? = some n) (hn : X.env.scope.names.lookup n = some .local)
    (hgC : Gl X cn) (hmC : X.mg cn = some (.ref C)) (hs : ∀ ea, PSs (X.suite ea) (b₀ :: suite) ts)
    (hsw : swapsWith (.Call (.Name fn pf) (e :: es) [] pc) none pa.line X.env = pure false := by rfl)
    (hdb : (fn == ("__debug__" : Str)) = false := by decide) (hdc : (cn == ("__debug__" : Str)) = false := by decide) (he : starEach (e :: es) X.env = (false, eval e X.env) :: starEach es X.env := by rfl) (hpl : (backTo pc (starEach es X.env)).any (·.1) = false := by rfl) :
    PS X (.Try [.Expr (.Call (.Name fn pf) (e :: es) [] pc) pa] [.ExceptHandler (some (.Name cn np)) (some n) (b₀ :: suite) hp] [] [] pos) (tTryE j X.K C sp ta ts) := by
  intro pins s σ H D I h
  refine wpAny_Try_except ?_
  refine wpAny_execs_cons (wpAny_Expr_any (wpAny_Call_Name_kw (ld_glob I hgf hmf ?_ hdb)) I.quiet hsw)
  refine PySem.W.callWith_K (h₀ := X.base) I.ok.mod.kin hkf (wpAny_mono (ha pc pins s σ H _ I h) (fun us s1 ⟨vs, H1, I1, r, q⟩ => ⟨I1.kIn, ?_⟩) fun _ _ z => by rw [hxe] at z; exact z.elim) he hpl
  have hl : (us ++ []).length = ps.length := by rw [List.append_nil, ← r.length]; exact G.len _ _ _ _ q
  have hbd := hb s1 us I1.kIn hl
  rw [List.append_nil] at hbd
  refine wpAny_call (codeAny_mono (G.run X.A X.stack s1 H1 ⟨us, []⟩ us vs _ _ hr I1.env0 hbd r q) fun res s2 hq => ?_)
  cases res with
  | ok fl =>
    cases fl with
    | next => exact False.elim hq
    | brk => exact False.elim hq
    | cont => exact False.elim hq
    | ret u =>
      obtain ⟨v, H2, I2, rv, q2⟩ := I1.after hq
      exact wpAny_execs_nil (wpAny_execs_nil ⟨_, H2, I2, q2⟩)
  | error ex =>
    obtain ⟨ea, t, H2, cls, B, rfl, os, bare, ⟨hm, hE⟩, fl, L⟩ := hq
    have fl' := fl
    rw [hstk] at fl'
    refine wpAny_looks_onW (by rw [I.ok.frames, hstk]) hfr fl' fun h4 held4 up4 => ?_
    refine wpAny_landsW (s := { s2 with heap := h4 }) held4 fun h5 fl5 up5 => ?_
    have up45 := up4.trans up5
    have I5 := I1.caught L os bare up45 (by rw [hstk]; exact fl5)
    obtain ⟨ob, hob, hobc⟩ := fl5.there
    refine wpAny_handleBy_cons (codeAny_handlers_test (ld_glob (X := X.suite ea) (I5.suite ea) hgC hmC ?_ hdc)) (by intro z; cases z)
    have LT : PySem.W.Looks (model X.prog X.w) h5 (typeOf (.ref ea)) cls := hobc ▸ (PySem.W.Looks.ld hob).andThen .now
    refine (PySem.W.exm_one (K := X.K) I5.kIn LT hm).at (codeAny_handlers_suite_as ?_)
    refine lands_againW (s := { s2 with heap := h5 }) fl5 fun h6 fl6 up6 => ?_
    have I6 := (I1.caught L os bare (up45.trans up6) (by rw [hstk]; exact fl6)).suite ea
    refine store_ok (X := X.suite ea) I6 hN hj (.inl hn) (show RelV (.ref ea) (.ref ea) from rfl) (fun s7 I7 => ?_) (.inr hn)
    refine wpAny_mono (hs ea pins s7 _ _ _ I7 (hE ea L.new)) (fun fl s8 q8 => ?_) fun _ _ z => z.elim
    cases fl with
    | next =>
      obtain ⟨σ8, H8, I8, q⟩ := q8
      have I8' := I8.unsuite I.ok
      obtain ⟨m, hm, hlk⟩ := id I8'.loc
      exact wpAny_nameGoes_keeps hn hm (by rw [I.ok.kind]; rfl) fun h9 v9 n9 sb9 => ⟨_, H8, I8'.unset hN hj hm hlk n9 sb9, q⟩
    | brk => obtain ⟨_, _, _, q⟩ := q8; exact q.elim
    | cont => obtain ⟨_, _, _, q⟩ := q8; exact q.elim
    | ret u =>
      obtain ⟨v8, σ8, H8, I8, r8, q⟩ := q8
      have I8' := I8.unsuite I.ok
      obtain ⟨m, hm, hlk⟩ := id I8'.loc
      exact wpAny_nameGoes_keeps hn hm (by rw [I.ok.kind]; rfl) fun h9 v9 n9 sb9 => ⟨v8, _, H8, I8'.unset hN hj hm hlk n9 sb9, r8, q⟩
end
/-! ### isinstance of an exception with a tuple of classes -/
end L2

set_option linter.all false
set_option maxRecDepth 100000
set_option maxHeartbeats 4000000
namespace L2
open PySem PySem.Spec PyProof.Rows
section
variable {es : List Expr} {env : Env}
theorem star_tup {a b c} : starEach (.Tuple a b c :: es) env = (false, eval (.Tuple a b c) env) :: starEach es env := rfl
theorem star_lst {a b} : starEach (.List a b :: es) env = (false, eval (.List a b) env) :: starEach es env := rfl
theorem star_con {a b c} : starEach (.Constant a b c :: es) env = (false, eval (.Constant a b c) env) :: starEach es env := rfl
theorem star_bin {a b c d} : starEach (.BinOp a b c d :: es) env = (false, eval (.BinOp a b c d) env) :: starEach es env := rfl
theorem star_name {a b} : starEach (.Name a b :: es) env = (false, eval (.Name a b) env) :: starEach es env := rfl
theorem star_call {a b c d} : starEach (.Call a b c d :: es) env = (false, eval (.Call a b c d) env) :: starEach es env := rfl
theorem star_sub {a b c} : starEach (.Subscript a b c :: es) env = (false, eval (.Subscript a b c) env) :: starEach es env := rfl
theorem star_lc {a b c d} : starEach (.ListComp a b c d :: es) env = (false, eval (.ListComp a b c d) env) :: starEach es env := rfl
end
theorem len2 : 2 ≤ sizeLine := by decide
theorem len3 : 3 ≤ sizeLine := by decide
end L2

set_option linter.all false
set_option maxHeartbeats 4000000
namespace L2
/-! ### rounds -/

/-! ### sums round a ring -/
end L2

set_option linter.all false
set_option maxRecDepth 100000
set_option maxHeartbeats 4000000
namespace L2
open PySem PySem.Spec PyProof.Rows

/-! ### sides, laid -/
end L2

set_option linter.all false
set_option maxRecDepth 100000
set_option maxHeartbeats 4000000
namespace L2
open PySem PySem.Spec PyProof.Rows
end L2

set_option linter.all false
set_option maxRecDepth 100000
set_option maxHeartbeats 4000000
namespace L2
open PySem PySem.Spec PyProof.Rows
/-! ### plain data, laid -/
/-! ### [::-1] -/
end L2

set_option linter.all false
set_option maxHeartbeats 4000000
namespace L2
/-! ### points that are drawn, one after another -/
end L2

set_option linter.all false
set_option maxRecDepth 100000
set_option maxHeartbeats 4000000
namespace L2
open PySem PySem.Spec PyProof.Rows
end L2

set_option linter.all false
set_option maxRecDepth 100000
set_option maxHeartbeats 4000000
namespace L2
open PySem PySem.Spec PyProof.Rows
end L2

set_option linter.all false
set_option maxRecDepth 100000
set_option maxHeartbeats 4000000
namespace L2
open PySem PySem.Spec PyProof.Rows
end L2

set_option linter.all false
set_option maxRecDepth 100000
namespace L2
open PySem PySem.StrLaws PySem.Builtin PySem.Builtin.Str
/-! ### texts: what is joined is split again -/
theorem str_ext {x y : Str} (h : x.cps.toList = y.cps.toList) : x = y := by
  cases x; cases y
  simp only at h
  rw [Array.toList_inj.mp h]
theorem len_list (x : Str) : x.cps.toList.length = x.length := by simp [Str.length]
/-- a mark: a sign that stands in the separator, not ahead of its place there -/
structure Mark (y : Str) (m c : Nat) : Prop where
  at_ : y.cps.toList[m]? = some c
  no : ∀ d, d < m → y.cps.toList[d]? ≠ some c
theorem at_sign {x y : Str} {n k m c : Nat} (hm : Mark y m c) (h : At x y n k) (d : Nat) (hd : d < y.length) : x.cps.toList[k + d]? = y.cps.toList[d]? := by
  have := h.2
  rw [subAt_eq] at this
  have e := eq_of_beq this
  rw [← e, List.getElem?_take_of_lt hd, List.getElem?_drop]
theorem Mark.lt {y : Str} {m c : Nat} (h : Mark y m c) : m < y.length := by
  have := (List.getElem?_eq_some_iff.mp h.at_).1
  rwa [len_list] at this
theorem split_core {y : Str} {m c : Nat} (hm : Mark y m c) {x : Str} : ∀ (parts : List Str) (pre : List Nat) (cuts : List Nat) (f : Nat), parts ≠ [] → (∀ p ∈ parts, c ∉ p.cps.toList) → x.cps.toList = pre ++ (Str.join y parts).cps.toList →
    ChainG x y x.length pre.length cuts f → (∀ k, f ≤ k → ¬ At x y x.length k) → partsFrom x y.length pre.length cuts = parts
  | [], _, _, _, h, _, _, _, _ => absurd rfl h
  | [p], pre, cuts, f, _, hf, hx, hc, ht => by
    have hp := hf p (by simp)
    have hx' : x.cps.toList = pre ++ p.cps.toList := hx
    have hl : x.length = pre.length + p.length := by
      rw [← len_list, hx', List.length_append, len_list]
    cases cuts with
    | nil =>
      show [strSub x pre.length x.length] = [p]
      congr 1
      apply str_ext
      rw [strSub_toList, hx', List.drop_left, hl, Nat.add_sub_cancel_left, ← len_list, List.take_length]
    | cons d r =>
      obtain ⟨h1, h2, _⟩ := hc
      have := at_sign hm h2 m hm.lt
      rw [hm.at_, hx', List.getElem?_append_right (by omega)] at this
      exact absurd (List.mem_of_getElem? this) hp
  | p :: q :: r, pre, cuts, f, _, hf, hx, hc, ht => by
    have hp := hf p (by simp)
    have hx' : x.cps.toList = pre ++ p.cps.toList ++ y.cps.toList ++ (Str.join y (q :: r)).cps.toList := by
      rw [hx]
      show pre ++ (p ++ y ++ Str.join y (q :: r)).cps.toList = _
      simp [Str.cps_append]
    have hl : x.length = pre.length + p.length + y.length + (Str.join y (q :: r)).length := by
      rw [← len_list, hx', List.length_append, List.length_append, List.length_append, len_list, len_list, len_list]
    have hA : At x y x.length (pre.length + p.length) := by
      refine ⟨by omega, ?_⟩
      rw [subAt_eq, hx']
      have : (pre ++ p.cps.toList ++ y.cps.toList ++ (Str.join y (q :: r)).cps.toList).drop (pre.length + p.length) = y.cps.toList ++ (Str.join y (q :: r)).cps.toList := by
        rw [List.append_assoc (pre ++ p.cps.toList)]
        have e : pre.length + p.length = (pre ++ p.cps.toList).length := by rw [List.length_append, len_list]
        rw [e, List.drop_left]
      rw [this, ← len_list y, List.take_left]
      simp
    cases cuts with
    | nil =>
      have e : f = pre.length := hc
      exact absurd hA (ht _ (by omega))
    | cons d cs =>
      obtain ⟨h1, h2, h3, h4⟩ := hc
      have hd1 : d ≤ pre.length + p.length := by
        rcases Nat.lt_or_ge (pre.length + p.length) d with z | z
        · exact absurd hA (h3 _ (by omega) z)
        · exact z
      have hd2 : pre.length + p.length ≤ d := by
        rcases Nat.lt_or_ge d (pre.length + p.length) with z | z
        · have e := at_sign hm h2 m hm.lt
          rw [hm.at_] at e
          rcases Nat.lt_or_ge (d + m) (pre.length + p.length) with z2 | z2
          · have e2 : x.cps.toList = pre ++ (p.cps.toList ++ (y.cps.toList ++ (Str.join y (q :: r)).cps.toList)) := by rw [hx']; simp
            rw [e2, List.getElem?_append_right (by omega), List.getElem?_append_left (by rw [len_list]; omega)] at e
            exact absurd (List.mem_of_getElem? e) hp
          · have e2 : x.cps.toList = (pre ++ p.cps.toList) ++ (y.cps.toList ++ (Str.join y (q :: r)).cps.toList) := by rw [hx']; simp
            have e3 : (pre ++ p.cps.toList).length = pre.length + p.length := by rw [List.length_append, len_list]
            have hml := hm.lt
            rw [e2, List.getElem?_append_right (by omega), e3, List.getElem?_append_left (by rw [len_list]; omega)] at e
            exact absurd e (hm.no _ (by omega))
        · exact z
      have hd : d = pre.length + p.length := by omega
      subst hd
      show strSub x pre.length (pre.length + p.length) :: partsFrom x y.length (pre.length + p.length + y.length) cs = p :: q :: r
      congr 1
      · apply str_ext
        rw [strSub_toList, hx', List.append_assoc, List.append_assoc, List.drop_left, Nat.add_sub_cancel_left, ← len_list, List.take_left]
      · have ih := split_core hm (x := x) (q :: r) (pre ++ p.cps.toList ++ y.cps.toList) cs f (by simp) (fun z hz => hf z (List.mem_cons_of_mem _ hz)) hx' (by
          have e : (pre ++ p.cps.toList ++ y.cps.toList).length = pre.length + p.length + y.length := by rw [List.length_append, List.length_append, len_list, len_list]
          rw [e]
          exact h4) ht
        have e : (pre ++ p.cps.toList ++ y.cps.toList).length = pre.length + p.length + y.length := by rw [List.length_append, List.length_append, len_list, len_list]
        rw [e] at ih
        exact ih
theorem len_join_ge (y : Str) : ∀ (p q : Str) (r : List Str), y.length ≤ (Str.join y (p :: q :: r)).length := fun p q r => by
  show y.length ≤ (p ++ y ++ Str.join y (q :: r)).length
  rw [← len_list, ← len_list]
  simp [Str.cps_append]
  omega
theorem kind_pos (x : Str) : 1 ≤ Builtin.Str.strKind x := by
  unfold Builtin.Str.strKind
  split
  · decide
  · split <;> decide
/-- what is joined is split again -/
theorem split_join {y : Str} {m c : Nat} (hm : Mark y m c) (hk : Builtin.Str.strKind y = 1) {parts : List Str} (h0 : parts ≠ []) (hf : ∀ p ∈ parts, c ∉ p.cps.toList) : Txt.split (Str.join y parts) y = parts := by
  have hw : 1 ≤ y.length := by have := hm.lt; omega
  obtain ⟨f, h1, h2⟩ := occ_tight (Str.join y parts) y hw
  have key := split_core hm parts [] _ f h0 hf rfl h1 h2
  unfold Txt.split
  split
  · rename_i e
    rw [Bool.or_eq_true, decide_eq_true_iff, decide_eq_true_iff] at e
    rcases e with e | e
    · match parts, h0 with
      | [p], _ => rfl
      | p :: q :: r, _ =>
        have := len_join_ge y p q r
        omega
    · have := kind_pos (Str.join y parts)
      omega
  · split
    · rename_i e
      rw [List.isEmpty_iff.mp e] at key
      have k2 : [strSub (Str.join y parts) 0 (Str.join y parts).length] = parts := key
      rw [← k2]
      congr 1
    · rw [partsBetween_eq]
      exact key
end L2

set_option linter.all false
set_option maxRecDepth 100000
namespace L2
open PySem PySem.StrLaws PySem.Builtin PySem.Builtin.Str PySem.NumText PyProof.Rows
/-! ### numbers as texts -/
def tx (n : Int) : Str := Str.ofString (toString n)
def Dg (m : Nat) : List Nat := (Nat.toDigits 10 m).map Char.toNat
theorem Dg_all (m : Nat) : AllDigits (Dg m) := by
  intro c hc
  obtain ⟨ch, hch, e⟩ := List.mem_map.mp hc
  have r := digit_range (Nat.isDigit_of_mem_toDigits (by decide) (by decide) hch)
  rw [← e]
  exact r
theorem Dg_len (m : Nat) : 1 ≤ (Dg m).length := by
  unfold Dg
  rw [List.length_map]
  exact PyProof.Rows.tDigits_len_ge 10 m
theorem Dg_ne (m : Nat) : Dg m ≠ [] := fun e => by
  have := Dg_len m
  rw [e] at this
  exact absurd this (by decide)
theorem Dg_le {m k : Nat} (hk : 1 ≤ k) (h : m < 10 ^ k) : (Dg m).length ≤ k := by
  unfold Dg
  rw [List.length_map]
  exact digits10_le hk h
theorem Dg_val (m : Nat) : digitsVal (Dg m) = m := PySem.W.KIN.val_back m
theorem val_lt : ∀ (cs : List Nat) (a : Nat), AllDigits cs → cs.foldl (fun acc c => acc * 10 + (c - 48)) a < (a + 1) * 10 ^ cs.length
  | [], a, _ => by simp
  | c :: cs, a, h => by
    have hc := h.head
    have ih := val_lt cs (a * 10 + (c - 48)) h.tail
    refine Nat.lt_of_lt_of_le ih ?_
    rw [List.length_cons, Nat.pow_succ, Nat.mul_comm (10 ^ cs.length) 10, ← Nat.mul_assoc]
    refine Nat.mul_le_mul_right _ ?_
    omega
/-- no zero leads -/
theorem Dg_lead {m : Nat} (h : (Dg m)[0]? = some 48) : m = 0 := by
  have hv := Dg_val m
  have hd := Dg_all m
  match e : Dg m, h, hd, hv with
  | c :: cs, h, hd, hv =>
    have hc : c = 48 := by simpa using h
    subst hc
    have hv' : cs.foldl (fun acc c => acc * 10 + (c - 48)) 0 = m := hv
    have lt := val_lt cs 0 hd.tail
    rw [hv', Nat.zero_add, Nat.one_mul] at lt
    rcases Nat.eq_zero_or_pos cs.length with z | z
    · rw [z] at lt
      simpa using lt
    · have := Dg_le z lt
      rw [e, List.length_cons] at this
      omega
theorem tx_pos (m : Nat) : (tx (m : Int)).cps.toList = Dg m := PySem.W.KIN.signs_num m
theorem tx_neg (m : Nat) (h : 0 < m) : (tx (-(m : Int))).cps.toList = 45 :: Dg m := by
  obtain ⟨k, rfl⟩ : ∃ k, m = k + 1 := ⟨m - 1, by omega⟩
  unfold tx
  rw [signs_ofString]
  show (toString (Int.negSucc k)).toList.map Char.toNat = _
  have e : toString (Int.negSucc k) = "-" ++ Nat.repr (k + 1) := rfl
  rw [e, String.toList_append, List.map_append, Nat.toList_repr]
  rfl
theorem tx_reads (n : Int) (h : n.natAbs < 10 ^ 60) : PySem.intText? (tx n) = some n ∧ (tx n).length ≤ 61 := by
  have hl := Dg_le (k := 60) (by decide) h
  rcases Int.lt_or_le n 0 with z | z
  · obtain ⟨m, hm, rfl⟩ : ∃ m : Nat, 0 < m ∧ n = -(m : Int) := ⟨n.natAbs, by omega, by omega⟩
    have e := tx_neg m hm
    have el : (tx (-(m : Int))).length ≤ 61 := by
      rw [← len_list, e, List.length_cons]
      have : (-(m : Int)).natAbs = m := by omega
      rw [this] at hl
      omega
    refine ⟨?_, el⟩
    have := intText_neg e (Dg_all m) (Dg_ne m) (by omega)
    rw [Dg_val] at this
    exact this
  · obtain ⟨m, rfl⟩ := Int.eq_ofNat_of_zero_le z
    have e := tx_pos m
    have el : (tx (m : Int)).length ≤ 61 := by
      rw [← len_list, e]
      have : (m : Int).natAbs = m := by omega
      rw [this] at hl
      omega
    refine ⟨?_, el⟩
    have := intText_digits (x := tx (m : Int)) (by rw [e]; exact Dg_all m) (by rw [e]; exact Dg_ne m) (by omega)
    rw [e, Dg_val] at this
    exact this
theorem tx_free {n : Int} {k : Nat} (h : k ≠ 45 ∧ (k < 48 ∨ 57 < k)) : k ∉ (tx n).cps.toList := int_text_free' k h n
theorem app_list (x y : Str) : (x ++ y).cps.toList = x.cps.toList ++ y.cps.toList := by simp [Str.cps_append]
theorem mk_blank : Mark (Str.ofString " ") 0 32 := ⟨by decide +kernel, fun d h => absurd h (by omega)⟩
end L2

set_option linter.all false
set_option maxRecDepth 100000
namespace L2
open PySem PySem.Spec PyProof.Rows
/-! texts: methods, slices, f-strings, iteration -/
section
variable {X : Cx}
/-- a module's constant -/
theorem pe_konS {x : Str} {v : Str} {pos : Pos} (hm : ∃ tk, X.mg x = some (.str v tk)) (hg : Gl X x := by rfl) (hd : (x == ("__debug__" : Str)) = false := by decide) : PE X (.Name x pos) (tC (.str v)) := by
  obtain ⟨tk, hm⟩ := hm
  exact pe_glob hg hm ⟨tk, rfl⟩ hd
theorem pe_konI {x : Str} {v : Int} {pos : Pos} (hm : ∃ tk, X.mg x = some (.int v tk)) (hg : Gl X x := by rfl) (hd : (x == ("__debug__" : Str)) = false := by decide) : PE X (.Name x pos) (tC (.int v)) := by
  obtain ⟨tk, hm⟩ := hm
  exact pe_glob hg hm ⟨tk, rfl⟩ hd
theorem mt_starts : MtR X "str.startswith" (fun x xs H Q => ∃ a b, x = .str a ∧ xs = [.str b] ∧ Q (.bl (decide (0 + b.length ≤ a.length) && Builtin.Str.subAt a b 0)) H) := by
  intro pins s σ H x xs v us Q I rx rs h
  obtain ⟨a, b, rfl, rfl, q⟩ := h
  obtain ⟨t, rfl⟩ := rx
  obtain ⟨u, rfl, t', rfl⟩ := vals1 rs
  exact call_gives PySem.F.slot_str_startswith (typeIs_str _ _ _) PySem.F.entry_str_startswith (PySem.F.args_str_startswith_2 _ _) (gives_str_startswith a b t t') ⟨V.bl _, H, I, rfl, q⟩
theorem strs_vals : ∀ (l : List Str) (k : Nat), Vals (l.map V.str) (strsFrom k l)
  | [], k => .nil
  | x :: r, k => .cons ⟨k, rfl⟩ (strs_vals r (k + 1))
theorem mt_split : MtR X "str.split" (fun x xs H Q => ∃ a b, x = .str a ∧ xs = [.str b] ∧ 1 ≤ b.length ∧ a.length ≤ sizeLine ∧ (Txt.split a b).length ≤ sizeLine ∧ ∀ p, H p = none → Q (.ref p) (upd H p (.lst ((Txt.split a b).map V.str)))) := by
  intro pins s σ H x xs v us Q I rx rs h
  obtain ⟨a, b, rfl, rfl, hb, ha, hn, q⟩ := h
  obtain ⟨t, rfl⟩ := rx
  obtain ⟨u, rfl, t', rfl⟩ := vals1 rs
  have hq := q _ (I.hok.fresh (Nat.le_refl _))
  have hb' : (b.length == 0) = false := by
    rw [beq_eq_false_iff_ne]
    omega
  have fin : ∀ (l : List Value) (tk : Nat), Vals ((Txt.split a b).map V.str) l → EP X pins σ Q (.ref s.heap.objs.size) { s with toks := tk, heap := s.heap.push { cls := .type "list", data := .seq l.toArray } } := fun l tk hl =>
    ⟨.ref s.heap.objs.size, _, I.laid (t' := tk) (o := .lst ((Txt.split a b).map V.str)) (fun b ob q => Heap.get?_push_of_some _ q) (Nat.le_refl _) ⟨by rw [List.length_map]; exact hn, l, 0, hl, Heap.get?_push_size _ rfl⟩, rfl, hq⟩
  cases h1 : (decide (a.length < b.length) || decide (Builtin.Str.strKind a < Builtin.Str.strKind b))
  · cases hf : (Builtin.Str.occurrences a b 0 a.length (a.length + 1)).isEmpty
    · have e : Txt.split a b = Builtin.Str.partsBetween a (Builtin.Str.occurrences a b 0 a.length (a.length + 1)) b.length := (if_neg (ne_true_of_eq_false h1)).trans (if_neg (ne_true_of_eq_false hf))
      refine call_meets PySem.F.slot_str_split (typeIs_str _ _ _) PySem.F.entry_str_split (PySem.F.args_str_split_2 _ _) (meets_str_split_sep a b t t' h1 hb' hf ha (by rw [← e]; exact hn)) ?_
      rw [← e]
      exact fin _ _ (strs_vals _ _)
    · have e : Txt.split a b = [a] := (if_neg (ne_true_of_eq_false h1)).trans (if_pos hf)
      refine call_meets PySem.F.slot_str_split (typeIs_str _ _ _) PySem.F.entry_str_split (PySem.F.args_str_split_2 _ _) (meets_str_split_not_found a b t t' h1 hb' hf) ?_
      refine fin [.str a t] s.toks ?_
      rw [e]
      exact .cons ⟨t, rfl⟩ .nil
  · have e : Txt.split a b = [a] := if_pos h1
    refine call_meets PySem.F.slot_str_split (typeIs_str _ _ _) PySem.F.entry_str_split (PySem.F.args_str_split_2 _ _) (meets_str_split_cannot_occur a b t t' h1) ?_
    refine fin [.str a t] s.toks ?_
    rw [e]
    exact .cons ⟨t, rfl⟩ .nil
theorem vals_strs : ∀ {xs : List Str} {us : List Value}, Vals (xs.map V.str) us → ∃ l : List (Str × Tok), us = strValues l ∧ l.map (·.1) = xs
  | [], _, .nil => ⟨[], rfl, rfl⟩
  | x :: r, _, .cons h t => by
    obtain ⟨tk, rfl⟩ := h
    obtain ⟨l, e1, e2⟩ := vals_strs t
    exact ⟨(x, tk) :: l, by rw [e1]; rfl, by rw [List.map_cons, e2]⟩
theorem mt_join : MtR X "str.join" (fun x xs H Q => ∃ a l ys, x = .str a ∧ xs = [.ref l] ∧ SqL X.K H l (ys.map V.str) ∧ PySem.JoinOk a ys = true ∧ Q (.str (Str.join a ys)) H) := by
  intro pins s σ H x xs v us Q I rx rs h
  obtain ⟨a, l, ys, rfl, rfl, hl, hok, q⟩ := h
  obtain ⟨t, rfl⟩ := rx
  obtain ⟨u, rfl, e⟩ := vals1 rs
  cases e
  obtain ⟨its, r, p, _⟩ := I.list hl
  obtain ⟨ls, rfl, e2⟩ := vals_strs r
  subst e2
  have hok' := hok
  unfold PySem.JoinOk at hok'
  rw [Bool.not_eq_true'] at hok'
  refine call_meets PySem.F.slot_str_join (typeIs_str _ _ _) PySem.F.entry_str_join (PySem.F.args_str_join_2 _ _) (meets_str_join_list a t l ls hok') ⟨p.isList, post_join ls ⟨joinFit_length hok', fun t' k => ?_⟩⟩
  have e3 : Txt.join a (ls.map (·.1)) = Str.join a (ls.map (·.1)) := StrLaws.glued_eq_join _ _
  rw [e3]
  exact ⟨V.str _, H, I.tok _, ⟨_, rfl⟩, q⟩
theorem call_intS : CallR X (.type "int") (fun xs H Q => ∃ x n, xs = [.str x] ∧ PySem.intText? x = some n ∧ x.length ≤ 640 ∧ Q (.int n) H) := by
  intro pins s σ H xs us Q I r h
  obtain ⟨x, n, rfl, hn, hl, q⟩ := h
  obtain ⟨u, rfl, t, rfl⟩ := vals1 r
  exact PySem.W.KIN.call_text hn hl ⟨.int n, H, I.tok _, ⟨_, rfl⟩, q⟩
/-- text[1:] -/
theorem cut1_ix {n : Nat} (h : 1 ≤ n) : Builtin.Str.strSliceIndices (some 1) none 1 n = List.range' 1 (n - 1) := by
  unfold Builtin.Str.strSliceIndices PySem.sliceRange
  have e1 : max 0 (min (1 : Int) (n : Int)) = 1 := by omega
  simp only [show ((1 : Int) > 0) = True from by simp, if_true, show ¬ ((1 : Int) < 0) by decide, if_false, e1, Int.ediv_one]
  have e2 : (if (1 : Int) < (n : Int) then (n : Int) - 1 + 1 - 1 else 0).toNat = n - 1 := by
    split <;> omega
  rw [e2, List.range'_eq_map_range]
  refine List.map_congr_left fun k _ => ?_
  omega
theorem pick_all {α : Type} : ∀ (xs pre : List α), (List.range' pre.length xs.length).filterMap (fun i => (pre ++ xs)[i]?) = xs
  | [], pre => by simp
  | x :: r, pre => by
    rw [List.length_cons, List.range'_succ, List.filterMap_cons]
    have e : (pre ++ x :: r)[pre.length]? = some x := by simp
    rw [e]
    have ih := pick_all r (pre ++ [x])
    rw [List.length_append, List.append_assoc] at ih
    exact congrArg (x :: ·) ih
theorem drop1_map {α : Type} (xs : List α) : (List.range' 1 (xs.length - 1)).filterMap (fun i => xs[i]?) = xs.drop 1 := by
  cases xs with
  | nil => rfl
  | cons x r => exact pick_all r [x]
def rSl1 : V → Option Int → Option Int → Hp → VK → Prop := fun x lo hi H Q => ∃ a, x = .str a ∧ lo = some 1 ∧ hi = none ∧ 1 ≤ a.length ∧ a.length ≤ sizeLine ∧ Q (.str ⟨(a.cps.toList.drop 1).toArray⟩) H
theorem sl_str1 : SlR X rSl1 := by
  intro pins s σ H x v vl vu lo hi sl Q I rx hs pl pu h
  obtain ⟨a, rfl, rfl, rfl, h1, h2, q⟩ := h
  obtain ⟨t, rfl⟩ := rx
  cases pl with
  | int i tk =>
    cases pu
    refine ⟨"str", _, PySem.F.slot_str_getitem.lookup, typeIs_str _ _ _, ?_⟩
    refine wpAny_getItem_str_slice (l := some (1, tk)) (u := none) (st := none) hs rfl ?_
    have e : slicePicked a (some (1, tk)) none none = List.range' 1 (a.length - 1) := cut1_ix h1
    unfold sliceMade
    rw [if_neg (by rw [e, List.length_range']; simp; omega), e]
    have e2 : (List.range' 1 (a.length - 1)).filterMap (fun i => a.cps[i]?) = a.cps.toList.drop 1 := by
      rw [← drop1_map, len_list]
      congr 1
      funext i
      simp
    rw [e2]
    refine ⟨?_, V.str _, H, I.tok _, ⟨_, rfl⟩, q⟩
    show (a.cps.toList.drop 1).toArray.size ≤ sizeLine
    rw [List.size_toArray, List.length_drop, len_list]
    omega
theorem app_len (x y : Str) : (x ++ y).length = x.length + y.length := by
  rw [← len_list, ← len_list, ← len_list, app_list, List.length_append]
/-- the signs of a text, one by one -/
def Its (x : Str) : It := ⟨fun i _ => i < x.length, fun i H v H' => H' = H ∧ ∃ c, x.cps.toList[i]? = some c ∧ v = .str ⟨#[c]⟩, fun i _ => x.length ≤ i⟩
theorem turn_str {P : Program} {w : World} {K : PySem.W.Frag} {tg : Expr} (x : Str) (t : Tok) (it : Addr) : Turn P w K tg (Its x) [it] it (fun i h => h.IsStrIter it "str_ascii_iterator" x t i) where
  mem := by simp
  obj := fun i h st b hb => by
    have e : b = it := by simpa using hb
    subst e
    obtain ⟨o, e, c, d⟩ := st
    exact ⟨o, e, fun v z => by rw [d] at z; cases z⟩
  keep := fun i h h' st k => by
    obtain ⟨o, e, r⟩ := st
    exact ⟨o, k it (by simp) o e, r⟩
  item := by
    intro X hP hw hK hc i pins s σ H E I hf st hg
    subst hP hw hK
    have hi : i < x.cps.toList.length := by rw [len_list]; exact hg
    obtain ⟨f0, f1, f2, f3, f4, f5⟩ := hf it (by simp)
    have hx : x.cps[i]? = some x.cps.toList[i] := by
      rw [← Array.getElem?_toList]
      exact List.getElem?_eq_getElem hi
    refine wpAny_pyNext_ascii_item st hx fun h' st' sb => ?_
    have I1 : Inv X pins σ H { s with heap := h', toks := s.toks + 1 } := I.turned (t' := s.toks + 1) (fun b o hb e => (sb.2 b hb).trans e) f0 f1 f3 f4 f5
    obtain ⟨o, e, c, d⟩ := id st'
    exact ⟨_, rfl, go_of (s := { s with heap := h', toks := s.toks + 1 }) e c d (by decide) ⟨V.str ⟨#[x.cps.toList[i]]⟩, H, I1, ⟨_, rfl⟩, ⟨rfl, _, List.getElem?_eq_getElem hi, rfl⟩, st', fun b hb => (hf b hb).1⟩⟩
  done := by
    intro X hP hw hK hc i pins s σ H E I hf st hg
    subst hP hw hK
    obtain ⟨f0, f1, f2, f3, f4, f5⟩ := hf it (by simp)
    have hx : x.cps[i]? = none := by
      rw [← Array.getElem?_toList, List.getElem?_eq_none_iff, len_list]
      exact hg
    exact wpAny_pyNext_ascii_end (I.ok.hd hc) st hx fun h' eb => ⟨rfl, I.turned (t' := s.toks) (fun b o hb e => eb b o hb e) f0 f1 f3 f4 f5⟩
  self := fun _ _ _ _ _ st h => wpAny_pyIter_striter_ascii st h
def iStr (tl : TE) : TI := fun σ H R => tl σ H fun x H1 => ∃ a, x = .str a ∧ (∀ c ∈ a.cps.toList, c < 128) ∧ R (Its a) H1
theorem pi_str {tg l : Expr} {tl : TE} (hl : PE X l tl) : PI X tg l (iStr tl) := by
  intro pins s σ H R I h
  refine thn (hl pins s σ H _ I h) fun v s1 ⟨x, H1, I1, r1, a, e, ha, q⟩ => ?_
  subst e
  obtain ⟨t, rfl⟩ := r1
  have hal : a.cps.all (· < 128) = true := by
    rw [← Array.all_toList, List.all_eq_true]
    intro c hc
    simpa using ha c hc
  refine wpAny_pyIter_ascii hal ?_
  refine ⟨s1.heap.objs.size, [s1.heap.objs.size], _, _, H1, rfl, I1.kept (t' := s1.toks) fun b o e => Heap.get?_push_of_some _ e, turn_str a t _, ⟨_, Heap.get?_push_size _ rfl, rfl, rfl⟩, fun b hb => ?_, q⟩
  have e : b = s1.heap.objs.size := by simpa using hb
  subst e
  exact I1.fpOk (Nat.le_refl _) (I1.hok.fresh (Nat.le_refl _))
end
end L2

set_option linter.all false
set_option maxRecDepth 100000
namespace L2
open PySem PySem.Spec PyProof.Rows
section
variable {σ : St} {H : Hp} {te tl : TE} {fr : St → St} {k : Nat} {K : PySem.W.Frag}
/-- over a text's signs -/
theorem gv_compS {a : Str} (f : Nat → V) (hl : Pu tl σ H (.str a)) (ha : ∀ c ∈ a.cps.toList, c < 128) (hz : a.length ≤ 1000) (hk : ∀ x, KeepS (fr σ) ((fr σ).set k (some x)))
    (hs : ∀ c ∈ a.cps.toList, ∀ H', Same H H' → Pu te ((fr σ).set k (some (.str ⟨#[c]⟩))) H' (f c)) : Gv (tComp (iStr tl) fr (gName k) te) σ H (fun v H' => ∃ D, H D = none ∧ v = .ref D ∧ H' = upd H D (.lst (a.cps.toList.map f))) := by
  intro Q g
  refine hl _ ⟨a, rfl, ha, fun D hD => ?_⟩
  refine ⟨fun i m ys H' => m = a.length - i ∧ i ≤ a.length ∧ ys = (a.cps.toList.take i).map f ∧ H' = upd H D (.lst ys), ⟨_, rfl, Nat.zero_le _, rfl, rfl⟩, ?_⟩
  rintro i m ys H' ⟨rfl, hi, rfl, rfl⟩
  have s' : Same H (upd H D (.lst ((a.cps.toList.take i).map f))) := Same.upd hD
  by_cases hlt : i < a.length
  · refine .inr ⟨hlt, ?_, fun x H3 y => ?_⟩
    · rw [List.length_map, List.length_take]; exact small1000 (by omega)
    obtain ⟨e, c, ex, e2⟩ := y
    subst e e2
    refine ⟨hk _, hs c (List.mem_of_getElem? ex) _ s' _ ⟨upd_same, a.length - (i + 1), by omega, rfl, hlt, ?_, ?_⟩⟩
    · rw [List.take_succ, ex]; simp
    · rw [upd_upd]
  · have e : i = a.length := by omega
    subst e
    refine .inl ⟨Nat.le_refl _, g _ _ ⟨D, hD, rfl, ?_⟩⟩
    rw [← len_list, List.take_length]
end
end L2

set_option linter.all false
set_option maxRecDepth 100000
set_option maxHeartbeats 4000000
namespace L2
open PySem PySem.Spec PyProof.Rows
/-! ### a comprehension whose element may raise -/
/-! the heap behind a raise within a comprehension -/
theorem funFrames_get {h h' B : Heap} (k : ∀ b, h'.get? b = h.get? b) : ∀ {l : List Env}, h.FunFrames B l → h'.FunFrames B l
  | [], _ => trivial
  | env :: r, ⟨h1, ⟨L, o, h2, h3, h4, h5⟩, h6⟩ => ⟨h1, ⟨L, o, h2, h3, (k L).trans h4, h5⟩, funFrames_get k h6⟩
theorem held_get {h h' B : Heap} {l : List Env} {e L : Addr} {cls a0 : Value} (k : ∀ b, h'.get? b = h.get? b) (x : Heap.HeldW B l e cls a0 L h) : Heap.HeldW B l e cls a0 L h' := by
  obtain ⟨x1, x2, x3, oe, vs, T, oT, ts, he, hc, hd, h1, hnT, hTe, hT, hdT, h3⟩ := x
  exact ⟨fun b o q => (k b).trans (x1 b o q), x2, funFrames_get k x3, oe, vs, T, oT, ts, (k e).trans he, hc, hd, h1, hnT, hTe, (k T).trans hT, hdT, h3⟩
end L2

set_option linter.all false
set_option maxRecDepth 100000
namespace L2
open PySem PySem.StrLaws PySem.Builtin PySem.Builtin.Str PyProof.Rows
/-! ### fractions, points and their texts -/
theorem bd_log {n : Int} (h : Bd 1000 n) : n.natAbs.log2 < 1920 := Nat.lt_trans (h.log (by decide)) (by decide)
theorem tx_len4 {n : Int} (h : Bd 700 n) : (tx n).length ≤ 750 := by
  have : n.natAbs < 10 ^ 700 := Nat.lt_trans h (by decide +kernel)
  have := int_text_length_le10 (a := n) (k := 700) (by decide) this
  have e : (tx n).length = (toString n).length := by
    rw [← len_list]
    unfold tx
    rw [signs_ofString, List.length_map]
    rfl
  omega
/-- joined texts are not too long -/
theorem fold_le {sep : Str} {b : Nat} : ∀ (ts : List Str) (a : Nat), (∀ t ∈ ts, t.length ≤ b) → ts.foldl (fun n t => n + t.length + sep.length) a ≤ a + ts.length * (b + sep.length)
  | [], a, _ => by simp
  | t :: r, a, h => by
    have ih := fold_le (sep := sep) (b := b) r (a + t.length + sep.length) fun u hu => h u (List.mem_cons_of_mem _ hu)
    have ht := h t (by simp)
    rw [List.foldl_cons, List.length_cons, Nat.succ_mul]
    omega
theorem joinOk_of {sep : Str} {ts : List Str} {b m : Nat} (h : ∀ t ∈ ts, t.length ≤ b) (hm : ts.length ≤ m) (hb : m * (b + sep.length) ≤ 16000000) : PySem.JoinOk sep ts = true := by
  have h1 := fold_le (sep := sep) ts 0 h
  have h2 : ts.length * (b + sep.length) ≤ m * (b + sep.length) := Nat.mul_le_mul_right _ hm
  unfold PySem.JoinOk Builtin.Str.tooLong
  rw [List.foldl_toArray']
  · rw [Bool.not_eq_true', decide_eq_false_iff_not]
    have : sizeLine = 16777216 := by decide
    omega
  · rfl
theorem join_len {sep : Str} {b : Nat} : ∀ (ts : List Str), (∀ t ∈ ts, t.length ≤ b) → (Str.join sep ts).length ≤ ts.length * (b + sep.length)
  | [], _ => by show Str.empty.length ≤ _; exact Nat.zero_le _
  | [t], h => by
    have := h t (by simp)
    show t.length ≤ _
    simp only [List.length_cons, List.length_nil]
    omega
  | t :: u :: r, h => by
    have ih := join_len (sep := sep) (b := b) (u :: r) fun z hz => h z (List.mem_cons_of_mem _ hz)
    have ht := h t (by simp)
    show (t ++ sep ++ Str.join sep (u :: r)).length ≤ _
    rw [app_len, app_len, List.length_cons (a := t), Nat.succ_mul]
    omega
/-! ### readings of texts -/
section
variable {σ : St} {H : Hp} {te tl to : TE} {K : PySem.W.Frag}
/-- sep.join(what is laid) -/
theorem gv_join {a : Str} {R R' : V → Hp → Prop} (ho : ∀ H', Pu to σ H' (.str a)) (h : Gv tl σ H R) (hr : ∀ v H', R v H' → ∃ l ys, v = .ref l ∧ H' l = some (.lst (ys.map V.str)) ∧ PySem.JoinOk a ys = true ∧ R' (.str (Str.join a ys)) H') :
    Gv (tBM K "str" (fun x xs H Q => ∃ a l ys, x = .str a ∧ xs = [.ref l] ∧ SqL K H l (ys.map V.str) ∧ PySem.JoinOk a ys = true ∧ Q (.str (Str.join a ys)) H) to (tCons tl tNil)) σ H R' := fun Q q =>
  ho H _ ⟨rfl, h _ fun v H' r => by
    obtain ⟨l, ys, rfl, h1, h2, h3⟩ := hr v H' r
    exact ⟨a, l, ys, rfl, rfl, SqL.of h1, h2, q _ _ h3⟩⟩
/-- x.split(y) -/
theorem gv_split {a b : Str} {ts : List Str} {tb : TE} (ho : Pu to σ H (.str a)) (hb : Pu tb σ H (.str b)) (h1 : 1 ≤ b.length) (h2 : a.length ≤ sizeLine) (e : Txt.split a b = ts) (h3 : ts.length ≤ sizeLine) :
    Gv (tBM K "str" (fun x xs H Q => ∃ a b, x = .str a ∧ xs = [.str b] ∧ 1 ≤ b.length ∧ a.length ≤ sizeLine ∧ (Txt.split a b).length ≤ sizeLine ∧ ∀ p, H p = none → Q (.ref p) (upd H p (.lst ((Txt.split a b).map V.str)))) to (tCons tb tNil)) σ H (fun v H' => ∃ p, H p = none ∧ v = .ref p ∧ H' = upd H p (.lst (ts.map V.str))) := fun Q q =>
  ho _ ⟨rfl, hb _ ⟨a, b, rfl, rfl, h1, h2, by rw [e]; exact h3, fun p hp => by rw [e]; exact q _ _ ⟨p, hp, rfl, rfl⟩⟩⟩
/-- x.startswith(y) -/
theorem pu_starts {a b : Str} {tb : TE} (ho : Pu to σ H (.str a)) (hb : Pu tb σ H (.str b)) : Pu (tBM K "str" (fun x xs H Q => ∃ a b, x = .str a ∧ xs = [.str b] ∧ Q (.bl (decide (0 + b.length ≤ a.length) && Builtin.Str.subAt a b 0)) H) to (tCons tb tNil)) σ H (.bl (decide (0 + b.length ≤ a.length) && Builtin.Str.subAt a b 0)) := fun Q q =>
  ho _ ⟨rfl, hb _ ⟨a, b, rfl, rfl, q⟩⟩
theorem starts_one (a : Str) (c : Nat) : (decide (0 + (⟨#[c]⟩ : Str).length ≤ a.length) && Builtin.Str.subAt a ⟨#[c]⟩ 0) = decide (a.cps.toList[0]? = some c) := by
  rw [Bool.eq_iff_iff, Bool.and_eq_true, decide_eq_true_iff, decide_eq_true_iff]
  exact subAt_one a c 0
theorem pu_addS {ta tb : TE} {x y : Str} (ha : Pu ta σ H (.str x)) (hb : Pu tb σ H (.str y)) (hz : x.length + y.length ≤ sizeLine) : Pu (tOp (fun x y H Q => ∃ i j, x = .str i ∧ y = .str j ∧ i.length + j.length ≤ sizeLine ∧ Q (.str (i ++ j)) H) ta tb) σ H (.str (x ++ y)) := fun _ q => ha _ (hb _ ⟨x, y, rfl, rfl, hz, q⟩)
theorem pu_neStr {ta tb : TE} {x y : Str} (ha : Pu ta σ H (.str x)) (hb : Pu tb σ H (.str y)) : Pu (tOp rNe ta tb) σ H (.bl (!decide (x = y))) := fun _ q => ha _ (hb _ ⟨rfl, by
  have e : decide (V.str x = V.str y) = decide (x = y) := by
    by_cases z : x = y
    · simp [z]
    · simp [z]
  rw [e]
  exact q⟩)
theorem pu_eqStr {ta tb : TE} {x y : Str} (ha : Pu ta σ H (.str x)) (hb : Pu tb σ H (.str y)) : Pu (tOp rEq ta tb) σ H (.bl (decide (x = y))) := fun _ q => ha _ (hb _ ⟨rfl, by
  have e : decide (V.str x = V.str y) = decide (x = y) := by
    by_cases z : x = y
    · simp [z]
    · simp [z]
  rw [e]
  exact q⟩)
theorem pu_lenS {t : TA} {z : Str} (ha : PuA t σ H [.str z]) (hz : z.length ≤ sizeLine) : Pu (tCB (fun xs H Q => ∃ z, xs = [.str z] ∧ z.length ≤ sizeLine ∧ Q (.int z.length) H) t) σ H (.int z.length) := fun _ q => ha _ ⟨z, rfl, hz, q⟩
theorem pu_inS {ta tb : TE} {c : Nat} {y : Str} (ha : Pu ta σ H (.str ⟨#[c]⟩)) (hb : Pu tb σ H (.str y)) : Pu (tOp (fun x y H Q => ∃ i j, x = .str i ∧ y = .str j ∧ Q (.bl (!(Builtin.Str.occurrences j i 0 j.length 1).isEmpty)) H) ta tb) σ H (.bl (decide (c ∈ y.cps.toList))) := fun _ q => ha _ (hb _ ⟨_, _, rfl, rfl, by rw [found_one]; exact q⟩)
theorem pu_cut1 {a : Str} {tn : TO} (ho : Pu to σ H (.str a)) (h1 : 1 ≤ a.length) (h2 : a.length ≤ sizeLine) : Pu (tSl rSl1 to (tPart (tC (.int 1))) tNoPart) σ H (.str ⟨(a.cps.toList.drop 1).toArray⟩) := fun Q q =>
  ho _ ⟨1, rfl, a, rfl, rfl, rfl, h1, h2, q⟩
end
theorem gt_nt {te : TE} {σ : St} {H : Hp} {R : Hp → Prop} (h : Gv te σ H (fun v H' => v = .bl true ∧ R H')) : GvT (tNot (tB te)) σ H (fun b H' => b = false ∧ R H') := fun Q q => h _ fun v H' r => ⟨true, r.1, q _ _ ⟨rfl, r.2⟩⟩
/-! ### reading a number -/
theorem s_minus : Str.ofString "-" = ⟨#[45]⟩ := by decide +kernel
theorem s_zero : Str.ofString "0" = ⟨#[48]⟩ := by decide +kernel
def fig (n : Int) : Str := ⟨(Dg n.natAbs).toArray⟩
theorem fig_list (n : Int) : (fig n).cps.toList = Dg n.natAbs := rfl
theorem fig_len {n : Int} (h : n.natAbs < 10 ^ 60) : 1 ≤ (fig n).length ∧ (fig n).length ≤ 60 := by
  rw [← len_list, fig_list]
  exact ⟨Dg_len _, Dg_le (by decide) h⟩
theorem tx_neg' {n : Int} (h : n < 0) : (tx n).cps.toList = 45 :: Dg n.natAbs := by
  obtain ⟨m, hm, rfl⟩ : ∃ m : Nat, 0 < m ∧ n = -(m : Int) := ⟨n.natAbs, by omega, by omega⟩
  rw [tx_neg m hm]
  have : (-(m : Int)).natAbs = m := by omega
  rw [this]
theorem tx_pos' {n : Int} (h : 0 ≤ n) : (tx n).cps.toList = Dg n.natAbs := by
  obtain ⟨m, rfl⟩ := Int.eq_ofNat_of_zero_le h
  exact tx_pos m
theorem tx_fig {n : Int} (h : 0 ≤ n) : tx n = fig n := str_ext (tx_pos' h)
theorem Dg_head (m : Nat) : (Dg m)[0]? ≠ some 45 := fun e => by
  have := Dg_all m 45 (List.mem_of_getElem? e)
  omega
theorem tx_starts (n : Int) : decide ((tx n).cps.toList[0]? = some 45) = decide (n < 0) := by
  rcases Int.lt_or_le n 0 with h | h
  · rw [tx_neg' h]
    simp [h]
  · rw [tx_pos' h]
    have := Dg_head n.natAbs
    simp [this, h]
theorem fig_ascii (n : Int) : ∀ c ∈ (fig n).cps.toList, c < 128 := fun c hc => by
  have := Dg_all _ c hc
  omega
theorem fig_digit (n : Int) : ∀ c ∈ (fig n).cps.toList, c ∈ (Str.ofString "0123456789").cps.toList := fun c hc => by
  obtain ⟨h1, h2⟩ := Dg_all _ c hc
  have : (Str.ofString "0123456789").cps.toList = [48, 49, 50, 51, 52, 53, 54, 55, 56, 57] := by decide +kernel
  rw [this]
  simp only [List.mem_cons, List.not_mem_nil, or_false]
  omega
theorem fig_zero {n : Int} (h : (fig n).cps.toList[0]? = some 48) : tx n = Str.ofString "0" := by
  have : n.natAbs = 0 := Dg_lead h
  have e : n = 0 := by omega
  subst e
  decide +kernel
/-! ### numbers too long to be read -/
theorem fig_long {n : Int} (h : 10 ^ 60 ≤ n.natAbs) : 60 < (fig n).length := by
  rw [← len_list, fig_list]
  refine Nat.lt_of_not_le fun z => ?_
  have h1 := val_lt (Dg n.natAbs) 0 (Dg_all _)
  have h3 : (Dg n.natAbs).foldl (fun acc c => acc * 10 + (c - 48)) 0 = n.natAbs := Dg_val _
  rw [h3] at h1
  have h4 : 10 ^ (Dg n.natAbs).length ≤ 10 ^ 60 := Nat.pow_le_pow_right (by decide) z
  omega
theorem fig_most {n : Int} (h : Bd 700 n) : (fig n).length ≤ 700 := by
  rw [← len_list, fig_list]
  exact Dg_le (by decide) (Nat.lt_trans h (by decide +kernel))
end L2

set_option linter.all false
set_option maxRecDepth 100000
set_option maxHeartbeats 4000000
namespace L2
open PySem PySem.Spec PyProof.Rows
/-! ### a written dict of the top: words to objects of the top -/
def entOf (P : Params) (p : Str × Tok × Addr) : DictEntry := ⟨PyData.keyHash P p.1, .str p.1 p.2.1, .ref p.2.2⟩
def KTab (w : World) (K : PySem.W.Frag) (d : Addr) (l : List (Str × Tok × Addr)) : Prop := (d == sysModules) = false ∧ ∃ ep, K.lookup d = some ⟨.type "dict", none, .dict (l.map (entOf w.params)).toArray ep, #[]⟩
def tabV (l : List (Str × Tok × Addr)) (x : Str) : V := match l.find? (fun p => p.1 == x) with
  | some p => .ref p.2.2
  | none => .non
theorem find_tab {P : Params} {x : Str} : ∀ (l : List (Str × Tok × Addr)), (((l.map (entOf P)).find? fun e => Value.isStrOf x e.key).map DictEntry.val).getD .none = (match l.find? (fun p => p.1 == x) with | some p => Value.ref p.2.2 | none => .none)
  | [] => rfl
  | p :: l => by
    rw [List.map_cons, List.find?_cons, List.find?_cons]
    have e : Value.isStrOf x (entOf P p).key = (p.1 == x) := rfl
    rw [e]
    cases p.1 == x with
    | true => rfl
    | false => exact find_tab l
section
variable {X : Cx}
theorem pe_kget {x : Str} {d : Addr} {l : List (Str × Tok × Addr)} {e : Expr} {t : TA} {p1 apos cpos : Pos} (hT : KTab X.w X.K d l) (hm : X.mg x = some (.ref d)) (ha : PA X [e] t) (hg : Gl X x := by rfl) (hd : (x == ("__debug__" : Str)) = false := by decide)
    (hbase : attributeBase (.Name x p1) "get" X.env (eval (.Name x p1) X.env) = eval (.Name x p1) X.env := by rfl)
    (hfew : ((backTo cpos (starEach [e] X.env)).all (fun x => !x.1) && (backToKw cpos (keywordEach [] X.env)).all (fun x => x.1.isSome)
      && decide (([e] : List Expr).length + ([] : List Keyword).length + (if ([] : List Keyword).isEmpty then 0 else 1) < 30)) = true := by rfl)
    (hline : (apos.endLine == cpos.line) = true := by rfl) (hs : starEach [e] X.env = (false, eval e X.env) :: starEach [] X.env := by rfl) (hplain : (backTo cpos (starEach [] X.env)).any (·.1) = false := by rfl) :
    PE X (.Call (.Attribute (.Name x p1) "get" apos) [e] [] cpos) (fun σ H Q => t σ H fun xs H1 => ∃ z, xs = [.str z] ∧ Q (tabV l z) H1) := by
  intro pins s σ H Q I h
  obtain ⟨hsys, ep, hk⟩ := hT
  refine wpAny_Call_method_late hbase hfew hline rfl (ld_glob I hg hm ?_ hd)
  have hget := I.kIn _ _ hk
  refine ⟨"dict", "dict.get", PySem.F.plainAttrs_dict, PySem.F.slot_dict_get, PySem.F.type_dict_get, ⟨_, hget, rfl⟩, fun a e => ?_, ?_⟩
  · cases e
    exact ⟨_, hget, rfl⟩
  have hA := ha cpos pins s σ H _ I h
  rw [hs] at hA ⊢
  refine Calls.callWith_builtin (by show (false || (backTo cpos (starEach [] X.env)).any (·.1)) = false; rw [hplain] <;> rfl) (Calls.evalArgs_plain ?_)
  refine thn hA fun us s2 ⟨vs, H2, I2, r2, q2⟩ => ?_
  obtain ⟨z, rfl, q⟩ := q2
  obtain ⟨u, rfl, ru⟩ := vals1 r2
  obtain ⟨tk, rfl⟩ := ru
  have hget2 := I2.kIn _ _ hk
  refine call_meetsIn PySem.F.slot_dict_get (show s2.TypeIs (.ref d) "dict" from ⟨_, hget2, rfl⟩) PySem.F.entry_dict_get (PySem.F.args_dict_get_2 _ _) (meets_dict_get (strKind X.prog X.w) d (k := z) (by show (z == z) = true; exact beq_self_eq_true z) hsys) ⟨_, ⟨_, _, _, hget2, ⟨rfl, rfl, rfl⟩, rfl, fun e he => ?_, fun k => rfl⟩, tabV l z, H2, I2.tok _, ?_, q⟩
  · rw [List.mem_toArray] at he
    obtain ⟨p, _, rfl⟩ := List.mem_map.mp he
    exact ⟨p.1, beq_self_eq_true p.1, rfl⟩
  · have e : findBy (strKind X.prog X.w).is (l.map (entOf X.w.params)).toArray z = ((l.map (entOf X.w.params)).find? fun e => Value.isStrOf z e.key).map DictEntry.val := by
      unfold findBy
      rw [List.find?_toArray]
      rfl
    rw [e, find_tab]
    unfold tabV
    cases l.find? (fun p => p.1 == z) with
    | none => rfl
    | some p => rfl
end
/-! ### zip of two tuples, of the call or of the top -/
def Izt (K : PySem.W.Frag) (a b : Addr) : It :=
  ⟨fun i H => ∃ xs ys x y, SqT K H a xs ∧ SqT K H b ys ∧ xs[i]? = some x ∧ ys[i]? = some y,
   fun i H v H' => ∃ p x y, H p = none ∧ v = .ref p ∧ H' = upd H p (.tup [x, y]) ∧ (∀ xs, SqT K H a xs → xs[i]? = some x) ∧ ∀ ys, SqT K H b ys → ys[i]? = some y,
   fun i H => ∃ xs ys, SqT K H a xs ∧ SqT K H b ys ∧ (xs.length ≤ i ∨ ys.length ≤ i)⟩
theorem turn_zipTT {P : Program} {w : World} {K : PySem.W.Frag} {es : List Expr} {n1} {pos : Pos}
    {z TI TO i1 i2 a b : Addr} (D : ZipApart z TI TO i1 i2 a b) : Turn P w K (.Tuple es n1 pos) (Izt K a b) [z, TI, TO, i1, i2] z (fun i h => IsZip h z TI TO .none ∧ IsPair h TI (.ref i1) (.ref i2) ∧ (∃ x y, IsPair h TO x y) ∧ h.IsTupleIter i1 a i ∧ h.IsTupleIter i2 b i) where
  mem := by simp
  obj := fun i h st e he => by
    obtain ⟨hz, hI, ⟨x, y, hO⟩, t1, t2⟩ := st
    simp only [List.mem_cons, List.not_mem_nil, or_false] at he
    rcases he with rfl | rfl | rfl | rfl | rfl
    · exact ⟨_, hz, fun v z => nomatch z⟩
    · exact ⟨_, hI, fun v z => nomatch z⟩
    · exact ⟨_, hO, fun v z => nomatch z⟩
    · exact (src_tup (prog := P) (w := w) _ a).obj i h t1
    · exact (src_tup (prog := P) (w := w) _ b).obj i h t2
  keep := fun i h h' st k => by
    obtain ⟨hz, hI, ⟨x, y, hO⟩, t1, t2⟩ := st
    exact ⟨k z (by simp) _ hz, k TI (by simp) _ hI, ⟨x, y, k TO (by simp) _ hO⟩, (src_tup (prog := P) (w := w) i1 a).tk _ _ _ t1 fun o e => k i1 (by simp) o e, (src_tup (prog := P) (w := w) i2 b).tk _ _ _ t2 fun o e => k i2 (by simp) o e⟩
  item := by
    intro X hP hw hK hc i pins s σ H E I hf st hg
    subst hP hw hK
    obtain ⟨xs, ys, x, y, ha, hb, ex, ey⟩ := hg
    obtain ⟨hz, hI, ⟨p, q, hO⟩, t1, t2⟩ := st
    obtain ⟨us, ru, c1, _⟩ := I.tuple ha
    obtain ⟨vs, rv, c2, _⟩ := I.tuple hb
    obtain ⟨u, hu, rxu⟩ := ru.get ex
    obtain ⟨v, hv, ryv⟩ := rv.get ey
    refine zz_nextItem D (src_tup i1 a) (src_tup i2 b) hz hI hO t1 t2 c1 c2 (x := u) (y := v) (by simpa using hu) (by simpa using hv) fun h1 a1 a2 a3 a4 a5 a6 => ⟨_, rfl, ?_⟩
    refine wpAny_letOwnedTupleGo_zip (s := { s with heap := h1 }) a1 fun h2 hz2 sb => ?_
    have zl := Heap.lt_size hz
    have fr : H s.heap.objs.size = none := I.hok.fresh (Nat.le_refl _)
    have ne : ∀ {e : Addr} {o : Obj}, s.heap.get? e = some o → e ≠ s.heap.objs.size := fun h => Nat.ne_of_lt (Heap.lt_size h)
    have up : ∀ e o, e ≠ z → h1.get? e = some o → h2.get? e = some o := fun e o n g => sb.extBut _ _ n g
    refine ⟨.ref s.heap.objs.size, upd H s.heap.objs.size (.tup [x, y]), ?_, rfl, ⟨_, x, y, fr, rfl, rfl, fun xs' h => ?_, fun ys' h => ?_⟩, ⟨hz2, up _ _ D.TIz (a6 _ _ D.TIz D.TITO D.TIi1 D.TIi2 hI), ⟨_, _, up _ _ D.TOz a2⟩, (src_tup (prog := X.prog) (w := X.w) i1 a).tk _ _ _ a3 fun o e => up _ o D.i1z e, (src_tup (prog := X.prog) (w := X.w) i2 b).tk _ _ _ a4 fun o e => up _ o D.i2z e⟩, fun e he => ?_⟩
    · refine I.turnedT (ch := [z, TI, TO, i1, i2]) (fun e o n g => ?_) hf (up _ _ (Nat.ne_of_gt zl) a5) rxu ryv
      simp only [List.mem_cons, List.not_mem_nil, or_false, not_or] at n
      exact up e o n.1 (a6 e o n.1 n.2.2.1 n.2.2.2.1 n.2.2.2.2 g)
    · rw [← I.tuple_inj ha h]; exact ex
    · rw [← I.tuple_inj hb h]; exact ey
    · have : e ≠ s.heap.objs.size := by
        simp only [List.mem_cons, List.not_mem_nil, or_false] at he
        rcases he with rfl | rfl | rfl | rfl | rfl
        · exact ne hz
        · exact ne hI
        · exact ne hO
        · obtain ⟨o, h, _⟩ := (src_tup (prog := X.prog) (w := X.w) _ a).obj _ _ t1; exact ne h
        · obtain ⟨o, h, _⟩ := (src_tup (prog := X.prog) (w := X.w) _ b).obj _ _ t2; exact ne h
      rw [upd_ne this]; exact (hf e he).1
  done := by
    intro X hP hw hK hc i pins s σ H E I hf st hg
    subst hP hw hK
    obtain ⟨xs, ys, ha, hb, hl⟩ := hg
    obtain ⟨hz, hI, ⟨p, q, hO⟩, t1, t2⟩ := st
    obtain ⟨us, ru, c1, _⟩ := I.tuple ha
    obtain ⟨vs, rv, c2, _⟩ := I.tuple hb
    have l1 := ru.length
    have l2 := rv.length
    refine zz_nextEnd (I.ok.hd hc) D (src_tup i1 a) (src_tup i2 b) hz hI hO t1 t2 c1 c2 ?_ fun h1 a6 => ⟨rfl, I.turnedL (ch := [z, TI, TO, i1, i2]) (fun e o n g => ?_) hf⟩
    · rcases hl with h | h
      · left; simp; omega
      · right; simp; omega
    · simp only [List.mem_cons, List.not_mem_nil, or_false, not_or] at n
      exact a6 e o n.1 n.2.2.1 n.2.2.2.1 n.2.2.2.2 g
  self := fun _ _ _ _ _ st h => wpAny_pyIter_zip st.1 h
section
variable {prog : Program} {w : World} {A : Around} {E : Value → Shared → Prop} {s : Shared}
def yA (h : Heap) (t : Addr) : Heap := h.push { cls := .type "tuple_iterator", data := .fields #[.ref t, .int 0 0] }
def yB (h : Heap) (t l : Addr) : Heap := (yA h t).push { cls := .type "tuple_iterator", data := .fields #[.ref l, .int 0 0] }
def yC (h : Heap) (t l : Addr) : Heap := (yB h t l).push { cls := .type "tuple", data := .seq #[.ref h.objs.size, .ref (yA h t).objs.size] }
def yD (h : Heap) (t l : Addr) : Heap := (yC h t l).push { cls := .type "tuple", data := .seq #[.none, .none] }
def yE (h : Heap) (t l : Addr) : Heap := (yD h t l).push { cls := .type "zip", data := .fields #[.none, .bool false, .bool false, .ref (yB h t l).objs.size, .ref (yC h t l).objs.size] }
theorem zn_tt (t l : Addr) (xs ys : Array Value) : Meets (Builtin.«zip.__new__» ⟨[.type "zip", .ref t, .ref l], []⟩) (fun _ R s => s.heap.IsTuple t xs ∧ s.heap.IsTuple l ys ∧ R (.ok (.ret (.ref (yD s.heap t l).objs.size))) { s with heap := yE s.heap t l }) :=
  .of_wp fun prog w A R s h => by
    obtain ⟨hp, g, d, tk, os⟩ := s
    obtain ⟨c1, c2, h⟩ := h
    have hsub := sub_zip
    have e1 : Heap.IsTuple (Shared.heap ⟨hp, g, d, tk, os⟩) t xs := c1
    have e2 : Heap.IsTuple (Shared.heap ⟨hp.push { cls := .type "tuple_iterator", data := .fields #[.ref t, .int 0 0] }, g, d, tk, os⟩) l ys := Heap.IsTuple.push c2 _
    wp_walk using wpAny_pyIter_tuple e1, wpAny_pyIter_tuple e2
    exact ⟨_, rfl, h⟩
theorem call_zipTT {t l : Addr} {xs ys : Array Value} {Q : Value → Shared → Prop} (c1 : s.heap.IsTuple t xs) (c2 : s.heap.IsTuple l ys)
    (q : ∀ h', IsZip h' (s.heap.objs.size + 4) (s.heap.objs.size + 2) (s.heap.objs.size + 3) .none → IsPair h' (s.heap.objs.size + 2) (.ref s.heap.objs.size) (.ref (s.heap.objs.size + 1)) →
      IsPair h' (s.heap.objs.size + 3) .none .none → h'.IsTupleIter s.heap.objs.size t 0 → h'.IsTupleIter (s.heap.objs.size + 1) l 0 → (∀ c o, s.heap.get? c = some o → h'.get? c = some o) → Q (.ref (s.heap.objs.size + 4)) { s with heap := h' }) :
    wpAny (model prog w) A (call (.type "zip") [.ref t, .ref l]) Q E s := by
  refine callType_new F.called_zip (by decide) (F.typeCall_zip_2 _ _) (F.newCall_zip_2 _ _) (fun obj => F.args_object_init_3 obj _ _) F.entry_zip_new (zn_tt t l xs ys) ⟨c1, c2, ?_⟩
  have n1 : (yA s.heap t).objs.size = s.heap.objs.size + 1 := Heap.size_push ..
  have n2 : (yB s.heap t l).objs.size = s.heap.objs.size + 2 := by unfold yB; rw [Heap.size_push, n1]
  have n3 : (yC s.heap t l).objs.size = s.heap.objs.size + 3 := by unfold yC; rw [Heap.size_push, n2]
  have n4 : (yD s.heap t l).objs.size = s.heap.objs.size + 4 := by unfold yD; rw [Heap.size_push, n3]
  have p1 : ∀ c o, (yA s.heap t).get? c = some o → (yE s.heap t l).get? c = some o := fun c o e => Heap.get?_push_of_some _ (Heap.get?_push_of_some _ (Heap.get?_push_of_some _ (Heap.get?_push_of_some _ e)))
  have p2 : ∀ c o, (yB s.heap t l).get? c = some o → (yE s.heap t l).get? c = some o := fun c o e => Heap.get?_push_of_some _ (Heap.get?_push_of_some _ (Heap.get?_push_of_some _ e))
  have p3 : ∀ c o, (yC s.heap t l).get? c = some o → (yE s.heap t l).get? c = some o := fun c o e => Heap.get?_push_of_some _ (Heap.get?_push_of_some _ e)
  have g1 : (yE s.heap t l).get? s.heap.objs.size = some _ := p1 _ _ (Heap.get?_push_size _ rfl)
  have g2 : (yE s.heap t l).get? (yA s.heap t).objs.size = some _ := p2 _ _ (Heap.get?_push_size _ rfl)
  have g3 : (yE s.heap t l).get? (yB s.heap t l).objs.size = some _ := p3 _ _ (Heap.get?_push_size _ rfl)
  have g4 : (yE s.heap t l).get? (yC s.heap t l).objs.size = some _ := Heap.get?_push_of_some _ (Heap.get?_push_size _ rfl)
  have g5 : (yE s.heap t l).get? (yD s.heap t l).objs.size = some _ := Heap.get?_push_size _ rfl
  show _ ∧ _
  rw [n2, n3, n4] at g5
  rw [n1, n2] at g3
  rw [n3] at g4
  rw [n1] at g2
  rw [n4]
  exact ⟨⟨_, g5, rfl⟩, q _ g5 g3 g4 ⟨_, g1, rfl, rfl⟩ ⟨_, g2, rfl, rfl⟩ fun c o e => p1 c o (Heap.get?_push_of_some _ e)⟩
end
section
variable {X : Cx}
def iZipT (K : PySem.W.Frag) (t : TA) : TI := fun σ H R => t σ H fun vs H1 => ∃ a b xs ys, vs = [.ref a, .ref b] ∧ SqT K H1 a xs ∧ SqT K H1 b ys ∧ R (Izt K a b) H1
theorem pi_zipTT {es : List Expr} {n1} {tp : Pos} {e1 e2 : Expr} {ta : TA} {p pos : Pos} (hg : Gl X "zip") (hm : X.mg "zip" = none) (hb : bootBuiltins "zip" = some (.type "zip")) (ha : PA X [e1, e2] ta)
    (hs : starEach [e1, e2] X.env = [(false, eval e1 X.env), (false, eval e2 X.env)] := by rfl) (hs2 : starEach [e2] X.env = [(false, eval e2 X.env)] := by rfl) :
    PI X (.Tuple es n1 tp) (.Call (.Name "zip" p) [e1, e2] [] pos) (iZipT X.K ta) := by
  intro pins s σ H R I h
  refine Call_ (ld_blt I hg hm hb (PyProof.Rows.callWith_type1 (thn (ha pos pins s σ H _ I h) fun us s1 ⟨vs, H1, I1, r1, q1⟩ => ?_) (by rw [hs, hs2]) (by rw [hs2]; rfl)))
  obtain ⟨a, b, xs, ys, rfl, h1, h2, q⟩ := q1
  cases r1 with
  | cons r rr =>
    cases rr with
    | cons r' rr =>
      cases rr
      cases r
      cases r'
      obtain ⟨us1, _, c1, _⟩ := I1.tuple h1
      obtain ⟨us2, _, c2, _⟩ := I1.tuple h2
      have la : a < s1.heap.objs.size := by
        obtain ⟨o, e, _⟩ := id c1
        exact Heap.lt_size e
      have lb : b < s1.heap.objs.size := by
        obtain ⟨o, e, _⟩ := id c2
        exact Heap.lt_size e
      refine call_zipTT c1 c2 fun h' z1 z2 z3 z4 z5 k => ?_
      refine wpAny_pyIter_zip (s := { s1 with heap := h' }) z1 ?_
      refine ⟨s1.heap.objs.size + 4, [s1.heap.objs.size + 4, s1.heap.objs.size + 2, s1.heap.objs.size + 3, s1.heap.objs.size, s1.heap.objs.size + 1], _, _, H1, rfl, I1.kept (t' := s1.toks) k, turn_zipTT (zip_apart la lb), ⟨z1, z2, ⟨_, _, z3⟩, z4, z5⟩, fun e he => ?_, q⟩
      have ge : s1.heap.objs.size ≤ e := by
        simp only [List.mem_cons, List.not_mem_nil, or_false] at he
        rcases he with rfl | rfl | rfl | rfl | rfl <;> omega
      exact I1.fpOk ge (I1.hok.fresh ge)
end
end L2

set_option linter.all false
set_option maxRecDepth 100000
set_option maxHeartbeats 4000000
namespace L2
open PySem PySem.Spec PyProof.Rows
/-! ### a loop whose body may raise -/
theorem cameBack_held {M : Model} {A : Around} {E : Value → Shared → Prop} {s : Shared} {B : Heap} {l : List Env} {env : Env} {e L : Addr} {cls a0 : Value} (hf : env.frame = some L) (x : Heap.HeldW B l e cls a0 L s.heap)
    (h : ∀ h', (∀ b, h'.get? b = s.heap.get? b) → E (.ref e) { s with heap := h' }) : cameBackBy M A env E (.ref e) s := by
  obtain ⟨x1, x2, x3, oe, vs, T, oT, ts, he, hc, hd, h1, hnT, hTe, hT, hdT, h3⟩ := x
  unfold cameBackBy
  refine wpAny_bind (wpAny_field he hd h1 ?_)
  show wpAny _ _ (ite ((Value.ref T == Value.none) = true) _ _) _ _ s
  rw [if_neg (c := (Value.ref T == Value.none) = true) (by exact Bool.false_ne_true), hf]
  unfold setFlight
  refine wpAny_bind (wpAny_field he hd h1 ?_)
  show wpAny _ _ (ite ((Value.ref T != Value.none) = true) _ _) _ _ s
  rw [if_pos (c := (Value.ref T != Value.none) = true) rfl]
  have hlt : 3 < ts.size := (Array.getElem?_eq_some_iff.mp h3).1
  refine wpAny_setField hT hdT hlt (h _ fun b => ?_)
  by_cases z : b = T
  · subst z
    rw [hT, Heap.get?_update_self _ hT (Obj.isFreed_of_fields (Obj.data_mapFields hdT _))]
    congr 1
    obtain ⟨c, d, dt, sl⟩ := oT
    simp only at hdT
    subst hdT
    show Obj.mk c d (.fields (ts.setIfInBounds 3 (rawInt L))) sl = Obj.mk c d (.fields ts) sl
    have e : ts.setIfInBounds 3 (rawInt L) = ts := by
      obtain ⟨hlt, hv⟩ := Array.getElem?_eq_some_iff.mp h3
      apply Array.ext
      · simp
      · intro i h1 h2
        by_cases z : 3 = i
        · subst z
          rw [Array.getElem_setIfInBounds_self]
          exact hv.symm
        · rw [Array.getElem_setIfInBounds_ne (by simpa using h1) z]
    rw [e]
  · exact Heap.get?_update_other _ _ (Ne.symm z)
section
variable {P : Program} {w : World} {K : PySem.W.Frag} {mg : Str → Option Value} {base : Heap} {N : List Str} {qual : Str} {scope : Scope} {f : Addr} {cd : Value} {A : Around} {outer : List Env} {s : Shared} {H : Hp} {E : XK}
/-- an exception in this frame, on its way or at hand -/
def ownE (P : Program) (w : World) (X : Cx) (E : XK) : Value → Shared → Prop := fun e s' => ∃ pins σ H1 s1, Inv X pins σ H1 s1 ∧ ∃ (ea t : Addr) (H2 : Hp) (cls : Value) (B : Heap), e = .ref ea ∧ s'.os = s1.os ∧ AllBare s'.gens ∧ E cls none H2 ∧
  (Heap.FlyingW B X.stack ea cls (.ref t) s'.heap ∨ ∃ L, X.env.frame = some L ∧ Heap.HeldW B X.stack ea cls (.ref t) L s'.heap) ∧ Lay P w X.stack H1 H2 s1 ea B s'.heap
theorem passO {X : Cx} : Passes (CXE P w) (X.wish (ownE P w X E)) E := fun pins σ H1 s1 e s' I ⟨ea, t, H2, cls, B, h1, h2, h3, h4, h5, h6⟩ => ⟨pins, σ, H1, s1, I.unwish, ea, t, H2, cls, B, h1, h2, h3, h4, .inl h5, h6⟩
theorem Lay.up {outer : List Env} {H H1 : Hp} {s : Shared} {ea : Addr} {B h h' : Heap} (L : Lay P w outer H H1 s ea B h) (k : ∀ b o, s.heap.get? b = some o → b ∈ frs outer → ∀ sl, h.get? b = some { o with slots := sl } → ∃ sl', h'.get? b = some { o with slots := sl' }) : Lay P w outer H H1 s ea B h' :=
  ⟨L.hok, L.new, L.keep, fun b o q n hb => by
    obtain ⟨sl, z⟩ := L.slot b o q n hb
    exact k b o q hb sl z, L.there, L.free, L.tups, L.frzs, L.tbls⟩
theorem passesOwnE : PassesOwn (model P w) (cxOf (CXE P w) P w K mg base N qual scope f cd A outer s H E).A (cxOf (CXE P w) P w K mg base N qual scope f cd A outer s H E).env (ownE P w (cxOf (CXE P w) P w K mg base N qual scope f cd A outer s H E) E) := by
  rintro e s' ⟨pins, σ, H1, s1, I, ea, t, H2, cls, B, rfl, os, bare, hE, fl, L⟩
  have fin : ∀ (h' : Heap), Heap.HeldW B (cxOf (CXE P w) P w K mg base N qual scope f cd A outer s H E).stack ea cls (.ref t) s.heap.objs.size h' → s'.heap.UpToSlots h' → cameBackBy (model P w) (cxOf (CXE P w) P w K mg base N qual scope f cd A outer s H E).A (cxOf (CXE P w) P w K mg base N qual scope f cd A outer s H E).env (ownE P w (cxOf (CXE P w) P w K mg base N qual scope f cd A outer s H E) E) (.ref ea) { s' with heap := h' } := fun h' held up => by
    refine cameBack_held (s := { s' with heap := h' }) (L := s.heap.objs.size) rfl held fun h2 k2 => ?_
    refine ⟨pins, σ, H1, s1, I, ea, t, H2, cls, B, rfl, os, bare, hE, .inr ⟨_, rfl, held_get k2 held⟩, L.up fun b o q hb sl z => ?_⟩
    obtain ⟨_, o', ho', hd'⟩ := I.stack.mem hb
    rw [q] at ho'
    cases ho'
    obtain ⟨sl2, z2⟩ := up b _ z hd'
    exact ⟨sl2, (k2 b).trans z2⟩
  rcases fl with fl | ⟨L0, e0, held⟩
  · exact wpAny_looks_onW I.ok.frames rfl fl fun h' held up => fin h' held up
  · have e1 : L0 = s.heap.objs.size := (Option.some.inj e0).symm
    subst e1
    exact wpAny_noteFrame_againW rfl held.2.2.2 (fin s'.heap held fun b o q _ => ⟨o.slots, q⟩)
/-- and it leaves the frame -/
theorem ownE_out {e : Value} {s' : Shared} (h : ownE P w (cxOf (CXE P w) P w K mg base N qual scope f cd A outer s H E) E e s') : (cxOf (CXE P w) P w K mg base N qual scope f cd A outer s H E).xe e s' := by
  obtain ⟨pins, σ, H1, s1, I, ea, t, H2, cls, B, rfl, os, bare, hE, fl, L⟩ := h
  rcases fl with fl | ⟨L0, e0, held⟩
  · exact passX pins σ H1 s1 (.ref ea) s' I ⟨ea, t, H2, cls, B, rfl, os, bare, hE, fl, L⟩
  have e1 : L0 = s.heap.objs.size := (Option.some.inj e0).symm
  subst e1
  show wpAny (model P w) _ (leaving (envOfC qual scope s.heap.objs.size f cd) (.ref ea)) _ _ s'
  unfold leaving
  refine wpAny_bind (wpAny_noteFrame_againW rfl held.2.2.2 ?_)
  refine wpAny_landsW held fun h' fl' up => ?_
  obtain ⟨y1, y2, ⟨_, _, y3⟩, y4⟩ := fl'
  have nf : ∀ {b : Addr} {o : Obj}, s.heap.get? b = some o → b ∉ frs outer → b ∉ frs (envOfC qual scope s.heap.objs.size f cd :: outer) := fun {b o} e n z => by
    have z' : b ∈ s.heap.objs.size :: frs outer := z
    rcases List.mem_cons.mp z' with q | q
    · exact absurd (Heap.lt_size e) (by rw [q]; exact Nat.lt_irrefl _)
    · exact n q
  have inn : ∀ {b : Addr}, b ∈ frs outer → b ∈ frs (envOfC qual scope s.heap.objs.size f cd :: outer) := fun {b} h => by
    show b ∈ s.heap.objs.size :: frs outer
    exact List.mem_cons_of_mem _ h
  have fre : ∀ b o, s.heap.get? b = some o → H b = none → H1 b = none := fun b o q n => I.base.free b o q n (by exact List.not_mem_nil)
  refine ⟨ea, t, H2, cls, B, rfl, os.trans I.os, bare, hE, ⟨y1, y2, y3, y4⟩, ⟨L.hok, L.new, fun b o q n hb => ?_, fun b o q n hb => ?_, fun b o q hb => ?_, fun b o q n => ?_, fun b xs q => L.tups b xs (I.base.tups b xs q), fun b o u q => L.frzs b o u (I.base.frzs b o u q), fun b ps q => ?_⟩⟩
  · exact L.keep b o (I.base.keep b o q n hb List.not_mem_nil) (fre b o q n) (nf q hb)
  · obtain ⟨sl, z⟩ := I.base.slot b o q n hb List.not_mem_nil
    obtain ⟨sl2, z2⟩ := L.slot b _ z (fre b o q n) (inn hb)
    obtain ⟨_, o', ho', hd'⟩ := I.ok.funs.mem hb
    rw [show (cxOf (CXE P w) P w K mg base N qual scope f cd A outer s H E).s₀.heap.get? b = some o from q] at ho'
    cases ho'
    obtain ⟨sl3, z3⟩ := up b _ z2 hd'
    exact ⟨sl3, z3⟩
  · obtain ⟨o', z⟩ := I.base.there b o q List.not_mem_nil
    exact L.there b o' z (nf q hb)
  · obtain ⟨sl, z⟩ := I.base.any q n List.not_mem_nil
    exact L.free b _ z (fre b o q n)
  · obtain ⟨m1, z1⟩ := I.base.tbls b ps q
    obtain ⟨m2, z2⟩ := L.tbls b _ z1
    exact ⟨m1 ++ m2, by rw [z2, Array.append_assoc]⟩
/-- for .. whose body may raise -/
theorem ps_forX {X : Cx} (hX : X = cxOf (CXE P w) P w K mg base N qual scope f cd A outer s H E) {tg iter : Expr} {body : List Stmt} {wi : TI} {g : TG} {tb : TS} {pos : Pos} (hc : X.calm = true) (hi : PI (X.wish (ownE P w X E)) tg iter wi) (hg : PG (X.wish (ownE P w X E)) tg g) (hb : PSs (X.wish (ownE P w X E)) body tb)
    (hs : ∀ x, foldedSetIterable iter X.env x = pure x := by intro _; rfl) : PS X (.For tg iter body [] pos) (tFor wi g tb) := by
  subst hX
  intro pins s1 σ H1 D I h
  refine wpAny_mono (ps_for (X := Cx.wish (cxOf (CXE P w) P w K mg base N qual scope f cd A outer s H E) (ownE P w (cxOf (CXE P w) P w K mg base N qual scope f cd A outer s H E) E)) passesOwnE hc hi hg hb hs pins s1 σ H1 D (I.wish _) h) (fun fl s2 q => ?_) fun e s2 q => ownE_out q
  cases fl with
  | next => obtain ⟨σ7, H7, I7, q7⟩ := q; exact ⟨σ7, H7, I7.unwish, q7⟩
  | cont => obtain ⟨σ7, H7, I7, q7⟩ := q; exact ⟨σ7, H7, I7.unwish, q7⟩
  | brk => obtain ⟨σ7, H7, I7, q7⟩ := q; exact ⟨σ7, H7, I7.unwish, q7⟩
  | ret v => obtain ⟨x7, σ7, H7, I7, r7, q7⟩ := q; exact ⟨x7, σ7, H7, I7.unwish, r7, q7⟩
end
end L2

set_option linter.all false
set_option maxRecDepth 100000
set_option maxHeartbeats 4000000
namespace L2
open PySem PySem.Spec PyProof.Rows
/-! ### things of any kind -/
inductive D where
  | non | bl (b : Bool) | int (n : Int) | str (s : Str) | tup (ds : List D) | lst (ds : List D) | dct
mutual
/-- v is that thing; lists are not hd -/
inductive DAt (hd : Addr) (H : Hp) : V → D → Prop
  | non : DAt hd H .non .non
  | bl (b : Bool) : DAt hd H (.bl b) (.bl b)
  | int (n : Int) : DAt hd H (.int n) (.int n)
  | str (s : Str) (h : (∀ c ∈ s.cps.toList, c < 128) ∧ s.length ≤ 1000) : DAt hd H (.str s) (.str s)
  | tup {a : Addr} {xs : List V} {ds : List D} (h : H a = some (.tup xs)) (t : DsAt hd H xs ds) : DAt hd H (.ref a) (.tup ds)
  | lst {a : Addr} {xs : List V} {ds : List D} (h : H a = some (.lst xs)) (n : a ≠ hd) (t : DsAt hd H xs ds) : DAt hd H (.ref a) (.lst ds)
  | dct {a : Addr} {kvs : List (Key × V)} (h : H a = some (.dK kvs)) : DAt hd H (.ref a) .dct
inductive DsAt (hd : Addr) (H : Hp) : List V → List D → Prop
  | nil : DsAt hd H [] []
  | cons {x : V} {d : D} {xs : List V} {ds : List D} (h : DAt hd H x d) (t : DsAt hd H xs ds) : DsAt hd H (x :: xs) (d :: ds)
end
section
variable {hd : Addr} {H H' : Hp}
mutual
theorem DAt.same (s : Same H H') : ∀ {v : V} {d : D}, DAt hd H v d → DAt hd H' v d
  | _, _, .non => .non
  | _, _, .bl b => .bl b
  | _, _, .int n => .int n
  | _, _, .str x h => .str x h
  | _, _, .tup h t => .tup (s _ _ h) (DsAt.same s t)
  | _, _, .lst h n t => .lst (s _ _ h) n (DsAt.same s t)
  | _, _, .dct h => .dct (s _ _ h)
theorem DsAt.same (s : Same H H') : ∀ {vs : List V} {ds : List D}, DsAt hd H vs ds → DsAt hd H' vs ds
  | _, _, .nil => .nil
  | _, _, .cons h t => .cons (DAt.same s h) (DsAt.same s t)
end
mutual
theorem DAt.but {ys : List V} (hy : H hd = some (.lst ys)) (s : SameB hd H H') : ∀ {v : V} {d : D}, DAt hd H v d → DAt hd H' v d
  | _, _, .non => .non
  | _, _, .bl b => .bl b
  | _, _, .int n => .int n
  | _, _, .str x h => .str x h
  | _, _, .tup h t => .tup (s _ _ h fun e => by rw [e, hy] at h; cases h) (DsAt.but hy s t)
  | _, _, .lst h n t => .lst (s _ _ h n) n (DsAt.but hy s t)
  | _, _, .dct h => .dct (s _ _ h fun e => by rw [e, hy] at h; cases h)
theorem DsAt.but {ys : List V} (hy : H hd = some (.lst ys)) (s : SameB hd H H') : ∀ {vs : List V} {ds : List D}, DsAt hd H vs ds → DsAt hd H' vs ds
  | _, _, .nil => .nil
  | _, _, .cons h t => .cons (DAt.but hy s h) (DsAt.but hy s t)
end
theorem DsAt.len : ∀ {vs : List V} {ds : List D}, DsAt hd H vs ds → vs.length = ds.length
  | _, _, .nil => rfl
  | _, _, .cons _ t => congrArg (· + 1) t.len
theorem DsAt.get : ∀ {vs : List V} {ds : List D} {i : Nat} {v : V}, DsAt hd H vs ds → vs[i]? = some v → ∃ d, ds[i]? = some d ∧ DAt hd H v d
  | _, _, 0, _, .cons h _, e => by cases e; exact ⟨_, rfl, h⟩
  | _, _, i + 1, _, .cons _ t, e => t.get (i := i) e
end
/-! ### kinds -/
theorem kit_not {K : PySem.W.Frag} {a b : String} (hn : (Value.type a == Value.type b) = false) (hm : (if PySem.W.kitMeta b = true then (PySem.fastBuiltinMro a).map (·.contains (Value.type b)) else none) = some false) : PySem.W.kitOne K (.type a) (.type b) = some false := by
  unfold PySem.W.kitOne
  rw [if_neg (by rw [hn]; decide)]
  exact hm
/-! ### text times number -/
section
variable {X : Cx}
theorem op_mulS : OpR X (binaryOp .Mult) (fun x y H Q => ∃ a n, x = .str a ∧ y = .int n ∧ MulOk a n ∧ Q (.str (Txt.mul a n)) H) := by
  intro pins s σ H x y v u Q I rx ry h
  obtain ⟨a, n, rfl, rfl, ok, q⟩ := h
  obtain ⟨t, rfl⟩ := rx
  obtain ⟨t', rfl⟩ := ry
  exact PySem.SB.mul ok fun t'' k => ⟨.str (Txt.mul a n), H, I.tok _, ⟨t'', rfl⟩, q⟩
/-- str of a text or of a number -/
theorem call_strD : CallR X (.type "str") (fun xs H Q => (∃ i, xs = [.int i] ∧ i.natAbs.log2 < 1920 ∧ Q (.str (tx i)) H) ∨ ∃ z, xs = [.str z] ∧ Q (.str z) H) := by
  intro pins s σ H xs us Q I r h
  rcases h with ⟨i, rfl, hi, q⟩ | ⟨z, rfl, q⟩
  · exact call_str_int pins s σ H [.int i] us Q I r ⟨i, rfl, hi, q⟩
  · obtain ⟨u, rfl, ru⟩ := vals1 r
    obtain ⟨t, rfl⟩ := ru
    exact PySem.P.str_of_str ⟨.str z, H, I, ⟨t, rfl⟩, q⟩
end
section
variable {σ : St} {H : Hp} {te : TE} {fr : St → St} {K : PySem.W.Frag}
theorem KeepS.noneL {v w : Option V} {f : List (Option V)} : KeepS (none :: none :: f) (v :: w :: f) := ⟨rfl, fun i u h => by
  rcases i with _ | _ | i
  · simp at h
  · simp at h
  · simpa using h⟩
/-- over zip of two tuples, what each turn gives known -/
theorem gv_compZT {t : TA} {xs ys ws : List V} {f : List (Option V)} {RA : List V → Hp → Prop} (hf : fr σ = none :: none :: f) (ha : GvA t σ H RA)
    (hra : ∀ vs H1, RA vs H1 → ∃ a b, vs = [.ref a, .ref b] ∧ Same H H1 ∧ (∀ H2, Same H1 H2 → SqT K H2 a xs) ∧ ∀ H2, Same H1 H2 → SqT K H2 b ys) (hz : xs.length ≤ 1000) (h1 : ys.length = xs.length) (h2 : ws.length = xs.length)
    (hs : ∀ (i : Nat) x y w H', xs[i]? = some x → ys[i]? = some y → ws[i]? = some w → Same H H' → Gv te (some x :: some y :: f) H' (fun v H'' => v = w ∧ Same H' H'')) :
    Gv (tComp (iZipT K t) fr (gTup K 2 (gCons (gName 0) (gCons (gName 1) gNil))) te) σ H (fun v H' => Same H H' ∧ ∃ D, v = .ref D ∧ H D = none ∧ H' D = some (.lst ws)) := by
  intro Q g
  refine ha _ fun vs H1 r1 => ?_
  obtain ⟨a, b, rfl, s1, ha, hb⟩ := hra vs H1 r1
  refine ⟨a, b, xs, ys, rfl, ha _ Same.rfl', hb _ Same.rfl', fun D hD => ?_⟩
  have hD0 : H D = none := same_none s1 hD
  refine ⟨fun i m zs H2 => m = xs.length - i ∧ i ≤ xs.length ∧ zs = ws.take i ∧ Same H1 H2 ∧ H2 D = some (.lst zs), ⟨_, rfl, Nat.zero_le _, rfl, Same.upd hD, upd_same⟩, ?_⟩
  rintro i m zs H2 ⟨rfl, hi, rfl, s2, hD2⟩
  by_cases hlt : i < xs.length
  · have l2 : i < ys.length := by omega
    refine .inr ⟨⟨xs, ys, xs[i], ys[i], ha _ s2, hb _ s2, by simp [hlt], by simp [l2]⟩, ?_, ?_⟩
    · rw [List.length_take]; exact small1000 (by omega)
    rintro v H3 ⟨p, x, y, hp, rfl, rfl, hx, hy⟩
    have s3 : Same H2 (upd H2 p (.tup [x, y])) := Same.upd hp
    rw [hf]
    refine ⟨p, [x, y], rfl, SqT.of upd_same, rfl, x, [y], rfl, y, [], rfl, rfl, KeepS.noneL, ?_⟩
    have ew : ws[i]? = some ws[i] := List.getElem?_eq_getElem (by omega)
    refine hs i x y _ _ (hx xs (ha _ s2)) (hy ys (hb _ s2)) ew (s1.trans (s2.trans s3)) _ fun v H4 ⟨e4, s4⟩ => ?_
    refine ⟨s4 _ _ (s3 _ _ hD2), xs.length - (i + 1), by omega, rfl, hlt, ?_, same_updNew (s2.trans (s3.trans s4)) hD, upd_same⟩
    rw [List.take_succ, ew, e4]; simp
  · have e : i = xs.length := by omega
    subst e
    refine .inl ⟨⟨xs, ys, ha _ s2, hb _ s2, .inl (Nat.le_refl _)⟩, g _ _ ⟨s1.trans s2, D, rfl, hD0, ?_⟩⟩
    rw [hD2, ← h2, List.take_length]
/-- thing[1:] -/
theorem cutV1 (x : V) (xs : List V) : cutV (x :: xs) (some 1) none = xs := by
  have := cutV_drop (x :: xs) (k := 1) (by simp)
  simpa using this
theorem gv_tl {to : TE} {a : Addr} {x : V} {xs : List V} (ho : Pu to σ H (.ref a)) (ha : H a = some (.tup (x :: xs))) : Gv (tSl (rSlT K) to (tPart (tC (.int 1))) tNoPart) σ H (fun v H' => ∃ p, H p = none ∧ v = .ref p ∧ H' = upd H p (.tup xs)) := fun Q q =>
  ho _ ⟨1, rfl, a, x :: xs, rfl, SqT.of ha, fun z => by
    have : HT.sIx (x :: xs).length 0 (some 1) = 1 := by
      show HT.sIx (xs.length + 1) 0 (some 1) = 1
      simp [HT.sIx]
    rw [this] at z
    exact absurd z.1 (by decide), fun p hp => by rw [cutV1]; exact q _ _ ⟨p, hp, rfl, rfl⟩⟩
end
end L2

set_option linter.all false
set_option maxRecDepth 100000
set_option maxHeartbeats 4000000
namespace L2
open PySem PySem.StrLaws PySem.Builtin PySem.Builtin.Str PyProof.Rows
/-! ### shapes -/
inductive Kd where
  | name | number | wish
  deriving DecidableEq
def kdS : Kd → Str
  | .name => Str.ofString "name"
  | .number => Str.ofString "number"
  | .wish => Str.ofString "wish"
def shTab : List (Str × List Kd) := [(Str.ofString "in", [.name]), (Str.ofString "round", [.name, .number]), (Str.ofString "least", [.number]), (Str.ofString "no", [.wish]), (Str.ofString "both", [.wish, .wish]), (Str.ofString "any", [.wish, .wish])]
def shp (s : Str) : Option (List Kd) := (shTab.find? fun p => p.1 == s).map (·.2)
def ShOk (w : World) (K : PySem.W.Frag) (d : Addr) : Prop := ∃ l, KTab w K d l ∧ Paired (fun (p : Str × Tok × Addr) (q : Str × List Kd) => p.1 = q.1 ∧ ∀ H, SqT K H p.2.2 (q.2.map fun k => V.str (kdS k))) l shTab
theorem tab_find {K : PySem.W.Frag} {s : Str} : ∀ {l : List (Str × Tok × Addr)} {m : List (Str × List Kd)}, Paired (fun (p : Str × Tok × Addr) (q : Str × List Kd) => p.1 = q.1 ∧ ∀ H, SqT K H p.2.2 (q.2.map fun k => V.str (kdS k))) l m →
    ((m.find? fun p => p.1 == s).map (·.2) = none ∧ tabV l s = .non) ∨ ∃ ks a, (m.find? fun p => p.1 == s).map (·.2) = some ks ∧ tabV l s = .ref a ∧ ∀ H, SqT K H a (ks.map fun k => V.str (kdS k))
  | _, _, .nil => .inl ⟨rfl, rfl⟩
  | p :: l, q :: m, .cons h t => by
    unfold tabV
    rw [List.find?_cons, List.find?_cons, h.1]
    cases q.1 == s with
    | true => exact .inr ⟨q.2, p.2.2, rfl, rfl, h.2⟩
    | false => exact tab_find t
/-! ### which things are wishes -/
def letters : Str := Str.ofString "abcdefghijklmnopqrstuvwxyz"
def nameOk (s : Str) : Bool := decide (1 ≤ s.length) && (decide (s.length ≤ 8) && s.cps.toList.all fun c => decide (c ∈ letters.cps.toList))
def partOk (W : D → Bool) : Kd → D → Bool
  | .name, .str s => nameOk s
  | .name, _ => false
  | .number, .int _ => true
  | .number, _ => false
  | .wish, d => W d
def partsOk (W : D → Bool) : List Kd → List D → Bool
  | [], [] => true
  | k :: ks, d :: ds => partOk W k d && partsOk W ks ds
  | _, _ => false
def isW : Nat → D → Bool
  | 0, _ => false
  | k + 1, .tup (.str s :: ds) => match shp s with
    | none => false
    | some ks => partsOk (isW k) ks ds
  | _ + 1, _ => false
/-! ### wishes -/
inductive Wi where
  | inn (n : Str) | rnd (n : Str) (k : Int) | lst (k : Int) | no (w : Wi) | both (a b : Wi) | any (a b : Wi)
namespace Wi
def d : Wi → D
  | inn n => .tup [.str (Str.ofString "in"), .str n]
  | rnd n k => .tup [.str (Str.ofString "round"), .str n, .int k]
  | lst k => .tup [.str (Str.ofString "least"), .int k]
  | no w => .tup [.str (Str.ofString "no"), w.d]
  | both a b => .tup [.str (Str.ofString "both"), a.d, b.d]
  | any a b => .tup [.str (Str.ofString "any"), a.d, b.d]
def deep : Wi → Nat
  | inn _ => 1
  | rnd _ _ => 1
  | lst _ => 1
  | no w => w.deep + 1
  | both a b => max a.deep b.deep + 1
  | any a b => max a.deep b.deep + 1
def names : Wi → Prop
  | inn n => nameOk n = true
  | rnd n _ => nameOk n = true
  | lst _ => True
  | no w => w.names
  | both a b => a.names ∧ b.names
  | any a b => a.names ∧ b.names
def nums (P : Int → Prop) : Wi → Prop
  | inn _ => True
  | rnd _ k => P k
  | lst k => P k
  | no w => w.nums P
  | both a b => a.nums P ∧ b.nums P
  | any a b => a.nums P ∧ b.nums P
def words : Wi → List Str
  | inn n => [Str.ofString "in", n]
  | rnd n k => [Str.ofString "round", n, tx k]
  | lst k => [Str.ofString "least", tx k]
  | no w => Str.ofString "no" :: w.words
  | both a b => Str.ofString "both" :: (a.words ++ b.words)
  | any a b => Str.ofString "any" :: (a.words ++ b.words)
def text (w : Wi) : Str := Str.join (Str.ofString " ") w.words
theorem words_ne (w : Wi) : w.words ≠ [] := by cases w <;> simp [words]
theorem deep_pos (w : Wi) : 1 ≤ w.deep := by cases w <;> simp [deep]
theorem shp_in : shp (Str.ofString "in") = some [.name] := by decide +kernel
theorem shp_round : shp (Str.ofString "round") = some [.name, .number] := by decide +kernel
theorem shp_least : shp (Str.ofString "least") = some [.number] := by decide +kernel
theorem shp_no : shp (Str.ofString "no") = some [.wish] := by decide +kernel
theorem shp_both : shp (Str.ofString "both") = some [.wish, .wish] := by decide +kernel
theorem shp_any : shp (Str.ofString "any") = some [.wish, .wish] := by decide +kernel
theorem isW_d : ∀ (w : Wi) (k : Nat), w.names → isW k w.d = decide (w.deep ≤ k)
  | w, 0, _ => by
    have := w.deep_pos
    rw [decide_eq_false (by omega)]
    rfl
  | inn n, k + 1, h => by
    have h' : nameOk n = true := h
    simp [d, isW, shp_in, partsOk, partOk, h', deep]
  | rnd n z, k + 1, h => by
    have h' : nameOk n = true := h
    simp [d, isW, shp_round, partsOk, partOk, h', deep]
  | lst z, k + 1, h => by simp [d, isW, shp_least, partsOk, partOk, deep]
  | no w, k + 1, h => by
    have := isW_d w k h
    simp [d, isW, shp_no, partsOk, partOk, deep, this]
  | both a b, k + 1, h => by
    have h1 := isW_d a k h.1
    have h2 := isW_d b k h.2
    rw [Bool.eq_iff_iff]
    simp [d, isW, shp_both, partsOk, partOk, deep, h1, h2]
    omega
  | any a b, k + 1, h => by
    have h1 := isW_d a k h.1
    have h2 := isW_d b k h.2
    rw [Bool.eq_iff_iff]
    simp [d, isW, shp_any, partsOk, partOk, deep, h1, h2]
    omega
end Wi
/-! ### texts -/
theorem app_assoc (x y z : Str) : x ++ y ++ z = x ++ (y ++ z) := str_ext (by simp [app_list])
theorem join_cons (sep x : Str) {ys : List Str} (h : ys ≠ []) : Str.join sep (x :: ys) = x ++ sep ++ Str.join sep ys := by
  cases ys with
  | nil => exact absurd rfl h
  | cons y r => rfl
theorem join_app (sep : Str) : ∀ {xs ys : List Str}, xs ≠ [] → ys ≠ [] → Str.join sep (xs ++ ys) = Str.join sep xs ++ sep ++ Str.join sep ys
  | [x], ys, _, h => join_cons sep x h
  | x :: y :: r, ys, _, h => by
    rw [List.cons_append, join_cons sep x (by simp), join_app sep (xs := y :: r) (by simp) h, join_cons sep x (by simp)]
    simp only [app_assoc]
theorem free_blank {s : Str} (h : nameOk s = true) : 32 ∉ s.cps.toList := fun z => by
  unfold nameOk at h
  simp only [Bool.and_eq_true, List.all_eq_true] at h
  have := of_decide_eq_true (h.2.2 32 z)
  revert this
  decide +kernel
theorem Wi.words_free : ∀ (w : Wi), w.names → ∀ p ∈ w.words, 32 ∉ p.cps.toList := by
  have c : ∀ s ∈ [Str.ofString "in", Str.ofString "round", Str.ofString "least", Str.ofString "no", Str.ofString "both", Str.ofString "any"], 32 ∉ s.cps.toList := by decide +kernel
  intro w
  induction w with
  | inn n =>
    intro h p hp
    simp only [words, List.mem_cons, List.not_mem_nil, or_false] at hp
    rcases hp with rfl | rfl
    · exact c _ (by simp)
    · exact free_blank h
  | rnd n k =>
    intro h p hp
    simp only [words, List.mem_cons, List.not_mem_nil, or_false] at hp
    rcases hp with rfl | rfl | rfl
    · exact c _ (by simp)
    · exact free_blank h
    · exact tx_free ⟨by decide, .inl (by decide)⟩
  | lst k =>
    intro h p hp
    simp only [words, List.mem_cons, List.not_mem_nil, or_false] at hp
    rcases hp with rfl | rfl
    · exact c _ (by simp)
    · exact tx_free ⟨by decide, .inl (by decide)⟩
  | no w ih =>
    intro h p hp
    simp only [words, List.mem_cons] at hp
    rcases hp with rfl | hp
    · exact c _ (by simp)
    · exact ih h p hp
  | both a b iha ihb =>
    intro h p hp
    simp only [words, List.mem_cons, List.mem_append] at hp
    rcases hp with rfl | hp | hp
    · exact c _ (by simp)
    · exact iha h.1 p hp
    · exact ihb h.2 p hp
  | any a b iha ihb =>
    intro h p hp
    simp only [words, List.mem_cons, List.mem_append] at hp
    rcases hp with rfl | hp | hp
    · exact c _ (by simp)
    · exact iha h.1 p hp
    · exact ihb h.2 p hp
theorem Wi.split_text {w : Wi} (h : w.names) : Txt.split w.text (Str.ofString " ") = w.words := split_join mk_blank (by decide +kernel) w.words_ne (w.words_free h)
/-! ### the written dict of the shapes -/
theorem sq_w {K : PySem.W.Frag} {a : Addr} {o : Option Addr} {its : Array Value} {n} {sl : Array (Option Value)} {xs : List V} (h : K.lookup a = some ⟨.type "tuple", o, .seq its n, sl⟩) (hz : its.size ≤ 10) (hv : Vals xs its.toList) : ∀ H, SqT K H a xs := fun H => .inr ⟨_, its, n, h, rfl, rfl, Nat.le_trans hz (by decide), hv⟩
theorem sh_mk {w : World} {K : PySem.W.Frag} {d : Addr} {ep} {t0 : Tok} {a0 : Addr} {t1 : Tok} {a1 : Addr} {t2 : Tok} {a2 : Addr} {t3 : Tok} {a3 : Addr} {t4 : Tok} {a4 : Addr} {t5 : Tok} {a5 : Addr} {o0 : Option Addr} {n0} {s0 : Array (Option Value)} {u0_0 : Tok} {o1 : Option Addr} {n1} {s1 : Array (Option Value)} {u1_0 : Tok} {u1_1 : Tok} {o2 : Option Addr} {n2} {s2 : Array (Option Value)} {u2_0 : Tok} {o3 : Option Addr} {n3} {s3 : Array (Option Value)} {u3_0 : Tok} {o4 : Option Addr} {n4} {s4 : Array (Option Value)} {u4_0 : Tok} {u4_1 : Tok} {o5 : Option Addr} {n5} {s5 : Array (Option Value)} {u5_0 : Tok} {u5_1 : Tok} (hd : (d == sysModules) = false) (y : K.lookup d = some ⟨.type "dict", none, .dict #[⟨PyData.keyHash w.params (Str.ofString "in"), .str (Str.ofString "in") t0, .ref a0⟩, ⟨PyData.keyHash w.params (Str.ofString "round"), .str (Str.ofString "round") t1, .ref a1⟩, ⟨PyData.keyHash w.params (Str.ofString "least"), .str (Str.ofString "least") t2, .ref a2⟩, ⟨PyData.keyHash w.params (Str.ofString "no"), .str (Str.ofString "no") t3, .ref a3⟩, ⟨PyData.keyHash w.params (Str.ofString "both"), .str (Str.ofString "both") t4, .ref a4⟩, ⟨PyData.keyHash w.params (Str.ofString "any"), .str (Str.ofString "any") t5, .ref a5⟩] ep, #[]⟩) (y0 : K.lookup a0 = some ⟨.type "tuple", o0, .seq #[.str (Str.ofString "name") u0_0] n0, s0⟩) (y1 : K.lookup a1 = some ⟨.type "tuple", o1, .seq #[.str (Str.ofString "name") u1_0, .str (Str.ofString "number") u1_1] n1, s1⟩) (y2 : K.lookup a2 = some ⟨.type "tuple", o2, .seq #[.str (Str.ofString "number") u2_0] n2, s2⟩) (y3 : K.lookup a3 = some ⟨.type "tuple", o3, .seq #[.str (Str.ofString "wish") u3_0] n3, s3⟩) (y4 : K.lookup a4 = some ⟨.type "tuple", o4, .seq #[.str (Str.ofString "wish") u4_0, .str (Str.ofString "wish") u4_1] n4, s4⟩) (y5 : K.lookup a5 = some ⟨.type "tuple", o5, .seq #[.str (Str.ofString "wish") u5_0, .str (Str.ofString "wish") u5_1] n5, s5⟩) : ShOk w K d := by
  refine ⟨[(Str.ofString "in", t0, a0), (Str.ofString "round", t1, a1), (Str.ofString "least", t2, a2), (Str.ofString "no", t3, a3), (Str.ofString "both", t4, a4), (Str.ofString "any", t5, a5)], ⟨hd, ep, y⟩, .cons ⟨rfl, sq_w y0 (by simp) (.cons ⟨_, rfl⟩ (.nil))⟩ (.cons ⟨rfl, sq_w y1 (by simp) (.cons ⟨_, rfl⟩ (.cons ⟨_, rfl⟩ (.nil)))⟩ (.cons ⟨rfl, sq_w y2 (by simp) (.cons ⟨_, rfl⟩ (.nil))⟩ (.cons ⟨rfl, sq_w y3 (by simp) (.cons ⟨_, rfl⟩ (.nil))⟩ (.cons ⟨rfl, sq_w y4 (by simp) (.cons ⟨_, rfl⟩ (.cons ⟨_, rfl⟩ (.nil)))⟩ (.cons ⟨rfl, sq_w y5 (by simp) (.cons ⟨_, rfl⟩ (.cons ⟨_, rfl⟩ (.nil)))⟩ (.nil))))))⟩
end L2

set_option linter.all false
set_option maxRecDepth 100000
set_option maxHeartbeats 4000000
namespace L2
open PySem PySem.Spec PyProof.Rows
def D.ty : D → String
  | .non => "NoneType"
  | .bl _ => "bool"
  | .int _ => "int"
  | .str _ => "str"
  | .tup _ => "tuple"
  | .lst _ => "list"
  | .dct => "dict"
theorem DAt.ty {K : PySem.W.Frag} {hd : Addr} {H : Hp} {v : V} {d : D} (h : DAt hd H v d) : TyOf K H v (.type d.ty) := by
  cases h with
  | non => exact .non
  | bl b => exact .bl b
  | int n => exact .int n
  | str s _ => exact .str s
  | tup h _ => exact .tup h
  | lst h _ _ => exact .lst h
  | dct h => exact .dK h
def D.isStr : D → Bool
  | .str _ => true
  | _ => false
def D.isTup : D → Bool
  | .tup _ => true
  | _ => false
def D.isInt : D → Bool
  | .int _ => true
  | .bl _ => true
  | _ => false
def D.isBool : D → Bool
  | .bl _ => true
  | _ => false
theorem kit_bool_int {K : PySem.W.Frag} : PySem.W.kitOne K (.type "bool") (.type "int") = some true := by
  unfold PySem.W.kitOne
  rw [if_neg (by decide)]
  show (if PySem.W.kitMeta "int" = true then (PySem.fastBuiltinMro "bool").map (·.contains (Value.type "int")) else none) = some true
  decide +kernel
theorem kd_str {K : PySem.W.Frag} (d : D) : PySem.W.kitOne K (.type d.ty) (.type "str") = some d.isStr := by
  cases d with
  | str s => exact kit_same
  | non => exact kit_not (a := "NoneType") (b := "str") (by decide) (by decide +kernel)
  | bl _ => exact kit_not (a := "bool") (b := "str") (by decide) (by decide +kernel)
  | int _ => exact kit_not (a := "int") (b := "str") (by decide) (by decide +kernel)
  | tup _ => exact kit_not (a := "tuple") (b := "str") (by decide) (by decide +kernel)
  | lst _ => exact kit_not (a := "list") (b := "str") (by decide) (by decide +kernel)
  | dct => exact kit_not (a := "dict") (b := "str") (by decide) (by decide +kernel)
theorem kd_tup {K : PySem.W.Frag} (d : D) : PySem.W.kitOne K (.type d.ty) (.type "tuple") = some d.isTup := by
  cases d with
  | tup s => exact kit_same
  | non => exact kit_not (a := "NoneType") (b := "tuple") (by decide) (by decide +kernel)
  | bl _ => exact kit_not (a := "bool") (b := "tuple") (by decide) (by decide +kernel)
  | int _ => exact kit_not (a := "int") (b := "tuple") (by decide) (by decide +kernel)
  | str _ => exact kit_not (a := "str") (b := "tuple") (by decide) (by decide +kernel)
  | lst _ => exact kit_not (a := "list") (b := "tuple") (by decide) (by decide +kernel)
  | dct => exact kit_not (a := "dict") (b := "tuple") (by decide) (by decide +kernel)
theorem kd_int {K : PySem.W.Frag} (d : D) : PySem.W.kitOne K (.type d.ty) (.type "int") = some d.isInt := by
  cases d with
  | int s => exact kit_same
  | bl b => exact kit_bool_int
  | non => exact kit_not (a := "NoneType") (b := "int") (by decide) (by decide +kernel)
  | str _ => exact kit_not (a := "str") (b := "int") (by decide) (by decide +kernel)
  | tup _ => exact kit_not (a := "tuple") (b := "int") (by decide) (by decide +kernel)
  | lst _ => exact kit_not (a := "list") (b := "int") (by decide) (by decide +kernel)
  | dct => exact kit_not (a := "dict") (b := "int") (by decide) (by decide +kernel)
theorem kd_bool {K : PySem.W.Frag} (d : D) : PySem.W.kitOne K (.type d.ty) (.type "bool") = some d.isBool := by
  cases d with
  | bl s => exact kit_same
  | non => exact kit_not (a := "NoneType") (b := "bool") (by decide) (by decide +kernel)
  | int _ => exact kit_not (a := "int") (b := "bool") (by decide) (by decide +kernel)
  | str _ => exact kit_not (a := "str") (b := "bool") (by decide) (by decide +kernel)
  | tup _ => exact kit_not (a := "tuple") (b := "bool") (by decide) (by decide +kernel)
  | lst _ => exact kit_not (a := "list") (b := "bool") (by decide) (by decide +kernel)
  | dct => exact kit_not (a := "dict") (b := "bool") (by decide) (by decide +kernel)
end L2

set_option linter.all false
set_option maxRecDepth 100000
set_option maxHeartbeats 4000000
namespace L2
open PySem PySem.StrLaws PySem.Builtin PySem.Builtin.Str PyProof.Rows
/-! ### wishes by their parts -/
inductive Pa where
  | nm (s : Str) | nb (k : Int) | ws (w : Wi)
namespace Pa
def kd : Pa → Kd
  | nm _ => .name
  | nb _ => .number
  | ws _ => .wish
def d : Pa → D
  | nm s => .str s
  | nb k => .int k
  | ws w => w.d
def words : Pa → List Str
  | nm s => [s]
  | nb k => [tx k]
  | ws w => w.words
def text : Pa → Str
  | nm s => s
  | nb k => tx k
  | ws w => w.text
def deep : Pa → Nat
  | ws w => w.deep
  | _ => 0
def names : Pa → Prop
  | nm s => nameOk s = true
  | nb _ => True
  | ws w => w.names
def nums (P : Int → Prop) : Pa → Prop
  | nm _ => True
  | nb k => P k
  | ws w => w.nums P
theorem words_ne (p : Pa) : p.words ≠ [] := by
  cases p with
  | nm s => simp [words]
  | nb k => simp [words]
  | ws w => exact w.words_ne
theorem text_join (p : Pa) : p.text = Str.join (Str.ofString " ") p.words := by cases p <;> rfl
end Pa
namespace Wi
def word : Wi → Str
  | inn _ => Str.ofString "in"
  | rnd _ _ => Str.ofString "round"
  | lst _ => Str.ofString "least"
  | no _ => Str.ofString "no"
  | both _ _ => Str.ofString "both"
  | any _ _ => Str.ofString "any"
def parts : Wi → List Pa
  | inn n => [.nm n]
  | rnd n k => [.nm n, .nb k]
  | lst k => [.nb k]
  | no w => [.ws w]
  | both a b => [.ws a, .ws b]
  | any a b => [.ws a, .ws b]
theorem d_eq (w : Wi) : w.d = .tup (.str w.word :: w.parts.map Pa.d) := by cases w <;> rfl
theorem words_eq (w : Wi) : w.words = w.word :: (w.parts.map Pa.words).flatten := by cases w <;> simp [words, word, parts, Pa.words]
theorem shp_eq (w : Wi) : shp w.word = some (w.parts.map Pa.kd) := by
  cases w
  · exact shp_in
  · exact shp_round
  · exact shp_least
  · exact shp_no
  · exact shp_both
  · exact shp_any
theorem parts_le (w : Wi) : w.parts.length ≤ 2 := by cases w <;> simp [parts]
theorem parts_ne (w : Wi) : w.parts ≠ [] := by cases w <;> simp [parts]
theorem deep_iff (w : Wi) (n : Nat) : w.deep ≤ n + 1 ↔ ∀ p ∈ w.parts, p.deep ≤ n := by cases w <;> simp [deep, parts, Pa.deep] <;> omega
theorem names_iff (w : Wi) : w.names ↔ ∀ p ∈ w.parts, p.names := by cases w <;> simp [names, parts, Pa.names]
theorem nums_iff (w : Wi) (P : Int → Prop) : w.nums P ↔ ∀ p ∈ w.parts, p.nums P := by cases w <;> simp [nums, parts, Pa.nums]
theorem word_le (w : Wi) : w.word.length ≤ 5 := by
  have : ∀ s ∈ [Str.ofString "in", Str.ofString "round", Str.ofString "least", Str.ofString "no", Str.ofString "both", Str.ofString "any"], s.length ≤ 5 := by decide +kernel
  cases w <;> exact this _ (by simp [word])
theorem word_ascii (w : Wi) : ∀ c ∈ w.word.cps.toList, c < 128 := by
  have : ∀ s ∈ [Str.ofString "in", Str.ofString "round", Str.ofString "least", Str.ofString "no", Str.ofString "both", Str.ofString "any"], ∀ c ∈ s.cps.toList, c < 128 := by decide +kernel
  cases w <;> exact this _ (by simp [word])
end Wi
theorem join_flat (sep : Str) : ∀ (ps : List Pa), ps ≠ [] → Str.join sep (ps.map fun p => Str.join sep p.words) = Str.join sep (ps.map Pa.words).flatten
  | [p], _ => by simp [Str.join]
  | p :: q :: r, _ => by
    have ih := join_flat sep (q :: r) (by simp)
    have hne : ((q :: r).map Pa.words).flatten ≠ [] := by
      have := q.words_ne
      simp [this]
    rw [List.map_cons, join_cons sep _ (by simp), ih, List.map_cons (f := Pa.words) (a := p), List.flatten_cons, join_app sep p.words_ne hne]
theorem Wi.text_eq (w : Wi) : w.text = Str.join (Str.ofString " ") (w.word :: w.parts.map Pa.text) := by
  have h1 : w.parts.map Pa.text = w.parts.map fun p => Str.join (Str.ofString " ") p.words := List.map_congr_left fun p _ => p.text_join
  have hne : (w.parts.map Pa.words).flatten ≠ [] := by
    cases h : w.parts with
    | nil => exact absurd h w.parts_ne
    | cons p r =>
      have := p.words_ne
      simp [this]
  unfold Wi.text
  rw [w.words_eq, h1, join_cons _ _ hne, join_cons _ _ (by simpa using w.parts_ne), join_flat _ _ w.parts_ne]
theorem name_len {s : Str} (h : nameOk s = true) : 1 ≤ s.length ∧ s.length ≤ 8 := by
  unfold nameOk at h
  simp only [Bool.and_eq_true, decide_eq_true_iff] at h
  exact ⟨h.1, h.2.1⟩
theorem name_ascii {s : Str} (h : nameOk s = true) : ∀ c ∈ s.cps.toList, c < 128 := fun c hc => by
  unfold nameOk at h
  simp only [Bool.and_eq_true, List.all_eq_true] at h
  have h1 := of_decide_eq_true (h.2.2 c hc)
  have : ∀ c ∈ letters.cps.toList, c < 128 := by decide +kernel
  exact this c h1
/-- texts are not too long -/
theorem Wi.text_len : ∀ (n : Nat) (w : Wi), w.deep ≤ n → w.names → w.nums (Bd 700) → w.text.length ≤ 751 * 3 ^ n
  | 0, w, h, _, _ => by have := w.deep_pos; omega
  | n + 1, w, h, hn, hk => by
    have hp : ∀ p ∈ w.parts, p.text.length ≤ 751 * 3 ^ n := fun p hp => by
      have p1 : 751 ≤ 751 * 3 ^ n := Nat.le_mul_of_pos_right _ (Nat.pow_pos (by decide))
      have d1 := (w.deep_iff n).mp h p hp
      have n1 := w.names_iff.mp hn p hp
      have k1 := (w.nums_iff _).mp hk p hp
      cases p with
      | nm s =>
        have := (name_len n1).2
        show s.length ≤ _
        omega
      | nb k =>
        have := tx_len4 k1
        show (tx k).length ≤ _
        omega
      | ws v => exact Wi.text_len n v d1 n1 k1
    have h1 : (Str.ofString " ").length = 1 := by decide +kernel
    have p1 : 1 ≤ 3 ^ n := Nat.pow_pos (by decide)
    have wl := w.word_le
    rw [w.text_eq, Nat.pow_succ]
    revert hp wl
    generalize w.word = wd
    have hl := w.parts_le
    have hne := w.parts_ne
    revert hl hne
    generalize w.parts = ps
    intro hl hne hp wl
    match ps, hl, hne, hp with
    | [p], _, _, hp =>
      have := hp p (by simp)
      show (wd ++ Str.ofString " " ++ p.text).length ≤ _
      rw [app_len, app_len]
      omega
    | [p, q], _, _, hp =>
      have h2 := hp p (by simp)
      have h3 := hp q (by simp)
      show (wd ++ Str.ofString " " ++ (p.text ++ Str.ofString " " ++ q.text)).length ≤ _
      rw [app_len, app_len, app_len, app_len]
      omega
/-! ### wishes laid hold no lists -/
theorem Wi.at_any {hd hd' : Addr} {H : Hp} : ∀ (u : Wi) {v : V}, DAt hd H v u.d → DAt hd' H v u.d
  | .inn _, _, .tup h (.cons (.str _ a) (.cons (.str _ b) .nil)) => .tup h (.cons (.str _ a) (.cons (.str _ b) .nil))
  | .rnd _ _, _, .tup h (.cons (.str _ a) (.cons (.str _ b) (.cons (.int _) .nil))) => .tup h (.cons (.str _ a) (.cons (.str _ b) (.cons (.int _) .nil)))
  | .lst _, _, .tup h (.cons (.str _ a) (.cons (.int _) .nil)) => .tup h (.cons (.str _ a) (.cons (.int _) .nil))
  | .no u, _, .tup h (.cons (.str _ a) (.cons b .nil)) => .tup h (.cons (.str _ a) (.cons (u.at_any b) .nil))
  | .both u v, _, .tup h (.cons (.str _ a) (.cons b (.cons c .nil))) => .tup h (.cons (.str _ a) (.cons (u.at_any b) (.cons (v.at_any c) .nil)))
  | .any u v, _, .tup h (.cons (.str _ a) (.cons b (.cons c .nil))) => .tup h (.cons (.str _ a) (.cons (u.at_any b) (.cons (v.at_any c) .nil)))
theorem Pa.at_any {hd hd' : Addr} {H : Hp} : ∀ (p : Pa) {v : V}, DAt hd H v p.d → DAt hd' H v p.d
  | .nm _, _, .str _ a => .str _ a
  | .nb _, _, .int _ => .int _
  | .ws u, _, h => u.at_any h
theorem Pas.at_any {hd hd' : Addr} {H : Hp} : ∀ (ps : List Pa) {vs : List V}, DsAt hd H vs (ps.map Pa.d) → DsAt hd' H vs (ps.map Pa.d)
  | [], _, .nil => .nil
  | p :: ps, _, .cons h t => .cons (p.at_any h) (Pas.at_any ps t)
theorem Pa.but {lp hd : Addr} {H H' : Hp} {ys : List V} {p : Pa} {v : V} (hy : H lp = some (.lst ys)) (s : SameB lp H H') (h : DAt hd H v p.d) : ∀ hd', DAt hd' H' v p.d := fun _ => p.at_any (DAt.but hy s (p.at_any (hd' := lp) h))
theorem Pas.but {lp hd : Addr} {H H' : Hp} {ys : List V} {ps : List Pa} {vs : List V} (hy : H lp = some (.lst ys)) (s : SameB lp H H') (h : DsAt hd H vs (ps.map Pa.d)) : ∀ hd', DsAt hd' H' vs (ps.map Pa.d) := fun _ => Pas.at_any ps (DsAt.but hy s (Pas.at_any (hd' := lp) ps h))
end L2

set_option linter.all false
set_option maxRecDepth 100000
set_option maxHeartbeats 4000000
namespace L2
open PySem PySem.Spec PyProof.Rows
theorem lookup2 {a b y : Str} {ca cb c : Addr} (h : [(a, ca), (b, cb)].lookup y = some c) : (y = a ∧ c = ca) ∨ (y = b ∧ c = cb) := by
  simp only [List.lookup_cons, List.lookup_nil] at h
  by_cases n1 : (y == a) = true
  · rw [n1] at h
    exact .inl ⟨beq_iff_eq.mp n1, (Option.some.inj h).symm⟩
  · rw [Bool.eq_false_iff.mpr n1] at h
    by_cases n2 : (y == b) = true
    · rw [n2] at h
      exact .inr ⟨beq_iff_eq.mp n2, (Option.some.inj h).symm⟩
    · rw [Bool.eq_false_iff.mpr n2] at h
      cases h
section
variable {X : Cx}
/-- a comprehension that catches two names -/
theorem pe_lcompD {x a b : Str} {px : Pos} {elt iter : Expr} {scope : Scope} {ca cb : Addr} {pos : Pos} {wi : TI} {te : TE} (ja jb : Nat)
    (hc : X.calm = true) (hi : PI X (.Name x px) iter wi)
    (hg : ∀ C fp s0 H0, PG (blk X [x, a, b] scope [(a, ca), (b, cb)] C fp s0 H0) (.Name x px) (gName 0)) (he : ∀ C fp s0 H0, PE (blk X [x, a, b] scope [(a, ca), (b, cb)] C fp s0 H0) elt te)
    (hclos : closureFor scope X.env = pure [(a, ca), (b, cb)]) (hkind : scope.kind = .function) (hnames : ∀ x ∈ scope.names, x.2 = .local → scope.names.lookup x.1 = some .local) (hcell : ∀ y ∈ scope.names, y.2 ≠ .cell)
    (h1 : X.env.cells.lookup a = some ca ∧ X.N[ja]? = some a ∧ X.env.kindOf a = some .cell ∧ (relabel scope X.env).names.lookup a = some .cell)
    (h2 : X.env.cells.lookup b = some cb ∧ X.N[jb]? = some b ∧ X.env.kindOf b = some .cell ∧ (relabel scope X.env).names.lookup b = some .cell)
    (hall : ((relabel scope X.env).names.all fun p => (p.2 != .cell && p.2 != .free) || (p.1 == a || p.1 == b)) = true)
    (hs : ∀ x, foldedSetIterable iter X.env x = pure x := by intro _; rfl) :
    PE X (.ListComp elt [⟨.Name x px, iter, [], 0⟩] scope pos) (tComp wi (fun σ => [none, (σ[ja]?).join, (σ[jb]?).join]) (gName 0) te) := by
  refine pe_lcomp (N' := [x, a, b]) (cl := [(a, ca), (b, cb)]) hc hi hg he hclos hkind hnames hcell (fun y' c' h => ?_) (fun y' h => ?_) (fun _ _ => rfl) (fun σ i y' v e1 e2 => ?_) hs
  · rcases lookup2 h with ⟨rfl, rfl⟩ | ⟨rfl, rfl⟩
    · exact h1.1
    · exact h2.1
  · rw [List.all_eq_true] at hall
    have key : ∀ k, (k = .cell ∨ k = .free) → (relabel scope X.env).names.lookup y' = some k → y' = a ∨ y' = b := fun k hk e => by
      have := hall _ (lookup_mem e)
      rcases hk with rfl | rfl
      · simpa using this
      · simpa using this
    have e : y' = a ∨ y' = b := by
      rcases h with h | h
      · exact key _ (.inl rfl) h
      · exact key _ (.inr rfl) h
    simp only [List.lookup_cons]
    by_cases n1 : (y' == a) = true
    · exact ⟨ca, by rw [n1]⟩
    · have n2 : (y' == b) = true := by
        rcases e with e | e
        · exact absurd (beq_iff_eq.mpr e) n1
        · exact beq_iff_eq.mpr e
      exact ⟨cb, by rw [Bool.eq_false_iff.mpr n1, n2]⟩
  · have js : ∀ {j : Nat}, (σ[j]?).join = some v → σ[j]? = some (some v) := fun {j} e => by
      cases h : σ[j]? with
      | none => rw [h] at e; cases e
      | some o => rw [h] at e; have : o = some v := e; rw [this]
    match i, e1, e2 with
    | 0, _, e2 => cases e2
    | 1, e1, e2 =>
      have e1' : a = y' := by simpa using e1
      subst e1'
      exact ⟨ja, h1.2.1, js (by simpa using e2), h1.2.2.1, h1.2.2.2⟩
    | 2, e1, e2 =>
      have e1' : b = y' := by simpa using e1
      subst e1'
      exact ⟨jb, h2.2.1, js (by simpa using e2), h2.2.2.1, h2.2.2.2⟩
    | i + 3, e1, _ => simp at e1
end
section
variable {K : PySem.W.Frag} {σ : St} {H : Hp} {D : Ends} {rest tb : TS}
/-- for .. in what is laid -/
theorem st_tuplG {g : TG} {te : TE} {RL : V → Hp → Prop} (h : Gv te σ H RL) (k : ∀ v H1, RL v H1 → tSeq (tFor (iTup K (tC v)) g tb) rest D σ H1) : tSeq (tFor (iTup K te) g tb) rest D σ H := h _ fun v H1 r => k v H1 r
/-- for x, y in zip of two tuples -/
theorem st_zipTT {ta : TA} {a b : Addr} {xs ys : List V} {k j : Nat} (ha : PuA ta σ H [.ref a, .ref b]) (Pv : Nat → St → Hp → Prop) (h0 : Pv 0 σ H) (hl : ∀ n σ H, Pv n σ H → SqT K H a xs ∧ SqT K H b ys) (hxy : ys.length = xs.length)
    (hs : ∀ (n : Nat) x y σ H p, xs[n]? = some x → ys[n]? = some y → Pv n σ H → H p = none → tb { D with nx := Pv (n + 1), ct := Pv (n + 1), bk := rest D } ((σ.set k (some x)).set j (some y)) (upd H p (.tup [x, y])))
    (hd : ∀ σ H, Pv xs.length σ H → rest D σ H) : tSeq (tFor (iZipT K ta) (gTup K 2 (gCons (gName k) (gCons (gName j) gNil))) tb) rest D σ H := by
  refine ha _ ⟨a, b, xs, ys, rfl, (hl 0 σ H h0).1, (hl 0 σ H h0).2, fun i m σ H => m = xs.length - i ∧ i ≤ xs.length ∧ Pv i σ H, ⟨xs.length, by simp, Nat.zero_le _, h0⟩, ?_⟩
  rintro i m σ H ⟨rfl, hi, p⟩
  obtain ⟨q1, q2⟩ := hl i σ H p
  by_cases hlt : i < xs.length
  · have l2 : i < ys.length := by omega
    refine .inr ⟨⟨xs, ys, xs[i], ys[i], q1, q2, by simp [hlt], by simp [l2]⟩, Pv (i + 1), fun σ' H' p' => ⟨xs.length - (i + 1), by omega, rfl, hlt, p'⟩, ?_⟩
    rintro v H' ⟨c, x, y, hc, rfl, rfl, hx, hy⟩
    exact ⟨c, [x, y], rfl, SqT.of upd_same, rfl, x, [y], rfl, y, [], rfl, rfl, hs i x y σ H c (hx xs q1) (hy ys q2) p hc⟩
  · have e : i = xs.length := by omega
    subst e
    exact .inl ⟨⟨xs, ys, q1, q2, .inl (Nat.le_refl _)⟩, hd σ H p⟩
end
section
variable {σ : St} {H : Hp} {te : TE}
theorem gv_compRG {ta : TA} {fr : St → St} {g : TG} {RA : List V → Hp → Prop} {R : V → Hp → Prop} (ha : GvA ta σ H RA) (hr : ∀ vs H1, RA vs H1 → ∃ n : Int, vs = [.int n] ∧ -(2 ^ 62) ≤ n ∧ n < 2 ^ 62 ∧ Gv (tComp (iRng1 (tCons (tC (.int n)) tNil)) fr g te) σ H1 R) : Gv (tComp (iRng1 ta) fr g te) σ H R := fun Q q =>
  ha _ fun vs H1 r => by
    obtain ⟨n, rfl, h1, h2, g⟩ := hr vs H1 r
    exact g Q q
end
/-- single signs joined -/
theorem join_signs : ∀ (cs : List Nat), (Str.join (Str.ofString "") (cs.map fun c => (⟨#[c]⟩ : Str))).cps.toList = cs
  | [] => rfl
  | [c] => rfl
  | c :: d :: r => by
    have ih := join_signs (d :: r)
    show ((⟨#[c]⟩ : Str) ++ Str.ofString "" ++ Str.join (Str.ofString "") ((d :: r).map fun c => (⟨#[c]⟩ : Str))).cps.toList = _
    rw [app_list, app_list, ih]
    have : (Str.ofString "").cps.toList = [] := by decide +kernel
    rw [this]
    rfl
end L2

set_option maxHeartbeats 4000000
namespace My
open PySem PySem.Spec PyProof.Rows L2
def top (i : Nat) : Stmt := PySem.Challenge.pw_plymap_k93_wishes.main.body.getD i (.Pass ⟨0, 0, 0, 0⟩)
def s_is_name : Stmt := top 7
def s_is_whole : Stmt := top 9
def s_shape_of : Stmt := top 13
def s_is_part : Stmt := top 14
def s_is_wish_within : Stmt := top 15
def s_is_wish : Stmt := top 16
def s_check_wish : Stmt := top 17
def s_show_part : Stmt := top 21
def s_words_of_wish : Stmt := top 22
def s_show_wish : Stmt := top 23
def s_check_text : Stmt := top 24
def s_read_whole : Stmt := top 25
def s_read_name : Stmt := top 26
def s_part_from : Stmt := top 27
def s_wish_from : Stmt := top 28
def s_read_wish : Stmt := top 29
def s_l_hand : Stmt := top 31
def s_l_next : Stmt := top 32
def s_l_take : Stmt := top 33
def s_l_draw : Stmt := top 34
def s_l_whole : Stmt := top 35
def s_l_number : Stmt := top 36
def s_l_name : Stmt := top 37
def s_l_wish : Stmt := top 38
def s_l_written : Stmt := top 39
def s_l_deep : Stmt := top 40
def s_l_alike : Stmt := top 41
def s_l_good : Stmt := top 42
def s_l_bad : Stmt := top 43
def s_l_unread : Stmt := top 44
def s_l_no_wish : Stmt := top 45
def s_law : Stmt := top 46
structure Adr where
  f_is_name : Addr
  d_is_name : FuncData
  f_is_whole : Addr
  d_is_whole : FuncData
  f_shape_of : Addr
  d_shape_of : FuncData
  f_is_part : Addr
  d_is_part : FuncData
  f_is_wish_within : Addr
  d_is_wish_within : FuncData
  f_is_wish : Addr
  d_is_wish : FuncData
  f_check_wish : Addr
  d_check_wish : FuncData
  f_show_part : Addr
  d_show_part : FuncData
  f_words_of_wish : Addr
  d_words_of_wish : FuncData
  f_show_wish : Addr
  d_show_wish : FuncData
  f_check_text : Addr
  d_check_text : FuncData
  f_read_whole : Addr
  d_read_whole : FuncData
  f_read_name : Addr
  d_read_name : FuncData
  f_part_from : Addr
  d_part_from : FuncData
  f_wish_from : Addr
  d_wish_from : FuncData
  f_read_wish : Addr
  d_read_wish : FuncData
  f_l_hand : Addr
  d_l_hand : FuncData
  f_l_next : Addr
  d_l_next : FuncData
  f_l_take : Addr
  d_l_take : FuncData
  f_l_draw : Addr
  d_l_draw : FuncData
  f_l_whole : Addr
  d_l_whole : FuncData
  f_l_number : Addr
  d_l_number : FuncData
  f_l_name : Addr
  d_l_name : FuncData
  f_l_wish : Addr
  d_l_wish : FuncData
  f_l_written : Addr
  d_l_written : FuncData
  f_l_deep : Addr
  d_l_deep : FuncData
  f_l_alike : Addr
  d_l_alike : FuncData
  f_l_good : Addr
  d_l_good : FuncData
  f_l_bad : Addr
  d_l_bad : FuncData
  f_l_unread : Addr
  d_l_unread : FuncData
  f_l_no_wish : Addr
  d_l_no_wish : FuncData
  f_law : Addr
  d_law : FuncData
  c_SHAPES : Addr
  c_PlyError : Addr
  c_BadWish : Addr
  c_NoText : Addr
structure Txt (K : PySem.W.Frag) (mg : Str → Option Value) (t : Adr) (w : World) : Prop where
  is_name : Fn K mg "is_name" s_is_name t.f_is_name t.d_is_name ["thing"]
  is_whole : Fn K mg "is_whole" s_is_whole t.f_is_whole t.d_is_whole ["thing"]
  shape_of : Fn K mg "shape_of" s_shape_of t.f_shape_of t.d_shape_of ["word"]
  is_part : Fn K mg "is_part" s_is_part t.f_is_part t.d_is_part ["kind", "thing", "depth"]
  is_wish_within : Fn K mg "is_wish_within" s_is_wish_within t.f_is_wish_within t.d_is_wish_within ["thing", "depth"]
  is_wish : Fn K mg "is_wish" s_is_wish t.f_is_wish t.d_is_wish ["thing"]
  check_wish : Fn K mg "check_wish" s_check_wish t.f_check_wish t.d_check_wish ["thing"]
  show_part : Fn K mg "show_part" s_show_part t.f_show_part t.d_show_part ["kind", "part"]
  words_of_wish : Fn K mg "words_of_wish" s_words_of_wish t.f_words_of_wish t.d_words_of_wish ["wish"]
  show_wish : Fn K mg "show_wish" s_show_wish t.f_show_wish t.d_show_wish ["wish"]
  check_text : Fn K mg "check_text" s_check_text t.f_check_text t.d_check_text ["text"]
  read_whole : Fn K mg "read_whole" s_read_whole t.f_read_whole t.d_read_whole ["text"]
  read_name : Fn K mg "read_name" s_read_name t.f_read_name t.d_read_name ["text"]
  part_from : Fn K mg "part_from" s_part_from t.f_part_from t.d_part_from ["kind", "words", "depth"]
  wish_from : Fn K mg "wish_from" s_wish_from t.f_wish_from t.d_wish_from ["words", "depth"]
  read_wish : Fn K mg "read_wish" s_read_wish t.f_read_wish t.d_read_wish ["text"]
  l_hand : Fn K mg "_law_hand" s_l_hand t.f_l_hand t.d_l_hand ["_law_script"]
  l_next : Fn K mg "_law_next" s_l_next t.f_l_next t.d_l_next ["_law_hand_here"]
  l_take : Fn K mg "_law_take" s_l_take t.f_l_take t.d_l_take ["_law_hand_here"]
  l_draw : Fn K mg "_law_draw" s_l_draw t.f_l_draw t.d_l_draw ["_law_hand_here", "_law_many"]
  l_whole : Fn K mg "_law_whole" s_l_whole t.f_l_whole t.d_l_whole ["_law_thing"]
  l_number : Fn K mg "_law_number" s_l_number t.f_l_number t.d_l_number ["_law_hand_here"]
  l_name : Fn K mg "_law_name" s_l_name t.f_l_name t.d_l_name ["_law_hand_here"]
  l_wish : Fn K mg "_law_wish" s_l_wish t.f_l_wish t.d_l_wish ["_law_hand_here", "_law_deep_here"]
  l_written : Fn K mg "_law_written" s_l_written t.f_l_written t.d_l_written ["_law_wish_here"]
  l_deep : Fn K mg "_law_deep" s_l_deep t.f_l_deep t.d_l_deep ["_law_wish_here"]
  l_alike : Fn K mg "_law_alike" s_l_alike t.f_l_alike t.d_l_alike ["_law_found", "_law_due"]
  l_good : Fn K mg "_law_good" s_l_good t.f_l_good t.d_l_good ["_law_wish_here"]
  l_bad : Fn K mg "_law_bad" s_l_bad t.f_l_bad t.d_l_bad ["_law_thing"]
  l_unread : Fn K mg "_law_unread" s_l_unread t.f_l_unread t.d_l_unread ["_law_text"]
  l_no_wish : Fn K mg "_law_no_wish" s_l_no_wish t.f_l_no_wish t.d_l_no_wish ["_law_hand_here", "_law_wish_here"]
  law : Fn K mg "law" s_law t.f_law t.d_law ["_law_script"]
  b_ValueError : mg "ValueError" = none
  b_abs : mg "abs" = none
  b_all : mg "all" = none
  b_bool : mg "bool" = none
  b_int : mg "int" = none
  b_isinstance : mg "isinstance" = none
  b_len : mg "len" = none
  b_list : mg "list" = none
  b_max : mg "max" = none
  b_range : mg "range" = none
  b_str : mg "str" = none
  b_tuple : mg "tuple" = none
  b_zip : mg "zip" = none
  k_MOST_LETTERS : ∃ tk, mg "MOST_LETTERS" = some (.int 8 tk)
  k_LETTERS : ∃ tk, mg "LETTERS" = some (.str "abcdefghijklmnopqrstuvwxyz" tk)
  k_DEEPEST : ∃ tk, mg "DEEPEST" = some (.int 6 tk)
  k_FIGURES : ∃ tk, mg "FIGURES" = some (.str "0123456789" tk)
  k_MOST_FIGURES : ∃ tk, mg "MOST_FIGURES" = some (.int 60 tk)
  m_SHAPES : mg "SHAPES" = some (.ref t.c_SHAPES)
  m_PlyError : mg "PlyError" = some (.ref t.c_PlyError)
  m_BadWish : mg "BadWish" = some (.ref t.c_BadWish)
  m_NoText : mg "NoText" = some (.ref t.c_NoText)
  shapes : ShOk w K t.c_SHAPES
  e_NoText : exK K t.c_NoText = true
  x_NoText : exC K t.c_NoText = true
  e_BadWish : exK K t.c_BadWish = true
  x_BadWish : exC K t.c_BadWish = true
  m1 : PySem.W.exmOne K (.ref t.c_NoText) (.ref t.c_PlyError) = some true
  m2 : PySem.W.exmOne K (.ref t.c_BadWish) (.ref t.c_PlyError) = some true
  i1 : PySem.W.kitOne K (.ref t.c_NoText) (.ref t.c_NoText) = some true
  i2 : PySem.W.kitOne K (.ref t.c_NoText) (.type "ValueError") = some true
  i3 : PySem.W.kitOne K (.ref t.c_NoText) (.ref t.c_BadWish) = some false
  j1 : PySem.W.kitOne K (.ref t.c_BadWish) (.ref t.c_BadWish) = some true
  j2 : PySem.W.kitOne K (.ref t.c_BadWish) (.type "ValueError") = some true
  j3 : PySem.W.kitOne K (.ref t.c_BadWish) (.ref t.c_NoText) = some false
section
variable {P : Program} {w : World} {K : PySem.W.Frag} {mg : Str → Option Value} {base : Heap} {t : Adr}
def isNm : D → Bool
  | .str s => nameOk s
  | _ => false
def sp_is_name : Sp := fun vs H Q _ => ∃ hd v d, vs = [v] ∧ DAt hd H v d ∧ ∀ H', Same H H' → Q (.bl (isNm d)) H'
theorem sc_is_name : FnScope ["thing"] ["thing"] (defScope s_is_name) := ⟨rfl, rfl, rfl, by decide +kernel, rfl, by decide +kernel, by decide +kernel⟩
theorem ok_is_name (T : Txt K mg t w) : FnOk P w K mg base CX0 1 t.f_is_name t.d_is_name ["thing"] sp_is_name := by
  refine T.is_name.F.ok (k := 0) sc_is_name (fun vs H Q E h => ?_) (fun cdv A outer s H vs Q E hr h => ?_)
  · obtain ⟨hd, v, d, rfl, _⟩ := h
    rfl
  · obtain ⟨hd, v, d, rfl, hv, k⟩ := h
    refine ⟨_, (@pss_cons _ _ _ _ _ (@ps_if _ _ _ _ _ _ _ _ (PW.pt (@pw_or _ _ _ _ _ _ _ (@pt_not _ _ _ _ (@pt_val _ _ _ (@pe_callB _ _ _ _ _ _ _ _ _ call_isinst (by rfl) T.b_isinstance PyProof.Rows.boot_isinstance (@pa_cons _ _ _ _ _ (pv 0) (@pa_cons _ _ _ _ _ (@pe_ty _ _ _ _ T.b_str PyProof.Rows.boot_str (by rfl) (by decide) (by decide)) (@pa_nil _) star_name) star_name) (by decide) (by decide) (by rfl) (by rfl)) (by intro _; rfl))) (@pw_or _ _ _ _ _ _ _ (@pt_cmpR _ _ _ _ _ _ _ _ op_lt (@pe_callB _ _ _ _ _ _ _ _ _ call_len_str (by rfl) T.b_len PySem.boot_len (@pa_cons _ _ _ _ _ (pv 0) (@pa_nil _) star_name) (by decide) (by decide) (by rfl) (by rfl)) (@pe_int _ _ _ _) (nomark _)) (@pw_or1 _ _ _ _ (@pt_cmpR _ _ _ _ _ _ _ _ op_gt (@pe_callB _ _ _ _ _ _ _ _ _ call_len_str (by rfl) T.b_len PySem.boot_len (@pa_cons _ _ _ _ _ (pv 0) (@pa_nil _) star_name) (by decide) (by decide) (by rfl) (by rfl)) (@pe_konI _ _ _ _ T.k_MOST_LETTERS (by rfl) (by decide)) (nomark _)))))) (@pss_one _ _ _ (@ps_ret _ _ _ _ (@pe_bl _ _ _ _))) (@pss_nil _)) (@pss_one _ _ _ (@ps_ret _ _ _ _ (@pe_callB _ _ _ _ _ _ _ _ _ (call_all rfl) (by rfl) T.b_all PyProof.Rows.boot_all (@pa_cons _ _ _ _ _ (@pe_lcomp _ _ _ _ _ [] _ ["letter"] _ (fun _ => [none]) _ _ rfl (@pi_str _ _ _ _ (pv 0)) (fun _ _ _ _ => pg_name (i := 0) (List.nodup_cons.mpr ⟨fun h => (nomatch h), List.nodup_nil⟩) rfl (Or.inl rfl) (.inr rfl)) (fun _ _ _ _ => (@pe_cmpR _ _ _ _ _ _ _ _ op_in_str (pv 0) (@pe_konS _ _ _ _ T.k_LETTERS (by rfl) (by decide)) rfl)) (closureFor_none (by decide +kernel)) rfl (by decide +kernel) (by decide +kernel) (fun _ _ h => by cases h) (noCells (by rfl)) (fun _ _ => rfl) (fun _ i _ _ _ h => by cases i with | zero => cases h | succ i => simp at h) (by intro _; rfl)) (@pa_nil _) star_lc) (by decide) (by decide) (by rfl) (by rfl))))), ?_⟩
    by_cases hs : d.isStr = true
    case neg =>
      have e0 : d.isStr = false := by simpa using hs
      refine st_ifN (b := true) (pt_or (b := true) (c := true) (pt_n (b := false) (pt_b (pu_isi (pa_c (pu_v rfl) (pa_c pu_c pa_n)) hv.ty (by rw [kd_str, e0])))) (fun e => by cases e)) (fun _ => ?_) (fun e => by cases e)
      have e1 : isNm d = false := by
        cases d <;> first | rfl | cases e0
      rw [e1] at k
      exact st_ret pu_c (k _ Same.rfl')
    cases hv with
    | str s ha =>
      obtain ⟨ha, hl⟩ := ha
      have big : 1000 ≤ sizeLine := by decide
      have LE : ∀ {σ : L2.St} {H' : Hp}, σ[0]? = some (some (.str s)) → Pu (tCB (fun xs H Q => ∃ z, xs = [.str z] ∧ z.length ≤ sizeLine ∧ Q (.int z.length) H) (tCons (tVar 0) tNil)) σ H' (.int (s.length : Nat)) := fun h => pu_lenS (pa_c (pu_v h) pa_n) (by omega)
      refine st_ifN (pt_or (b := false) (pt_n (b := true) (pt_b (pu_isi (pa_c (pu_v rfl) (pa_c pu_c pa_n)) (.str s) kit_same))) (fun _ => pt_or (pt_t (pu_lt (LE rfl) pu_c)) fun _ => pt_t (pu_gt (LE rfl) pu_c))) (fun e => ?_) (fun e => ?_)
      · have e1 : isNm (.str s) = false := by
          show nameOk s = false
          simp only [Bool.false_or, Bool.or_eq_true, decide_eq_true_iff] at e
          unfold nameOk
          rcases e with e | e
          · rw [decide_eq_false (by omega)]; rfl
          · rw [decide_eq_false (p := s.length ≤ 8) (by omega)]
            simp
        rw [e1] at k
        exact st_ret pu_c (k _ Same.rfl')
      · simp only [Bool.false_or, Bool.or_eq_false_iff, decide_eq_false_iff_not] at e
        have e1 : isNm (.str s) = (s.cps.toList.map fun c => decide (c ∈ (Str.ofString "abcdefghijklmnopqrstuvwxyz").cps.toList)).all id := by
          show nameOk s = _
          unfold nameOk
          rw [decide_eq_true (p := 1 ≤ s.length) (by omega), decide_eq_true (p := s.length ≤ 8) (by omega), List.all_map]
          rfl
        rw [e1] at k
        refine st_retG (gv_all (s.cps.toList.map fun c => decide (c ∈ (Str.ofString "abcdefghijklmnopqrstuvwxyz").cps.toList)) (gv_compS (fr := fun _ => [none]) (k := 0) (fun c => .bl (decide (c ∈ (Str.ofString "abcdefghijklmnopqrstuvwxyz").cps.toList))) (pu_v rfl) ha (by omega) (fun _ => KeepS.none1) fun c hc H' s => pu_inS (pu_v rfl) pu_c) ?_) ?_
        · rintro v H' ⟨D, hD, rfl, rfl⟩
          exact ⟨D, rfl, SqL.of (by rw [upd_same, List.map_map]; rfl)⟩
        · rintro v H' ⟨⟨p, D, hD, e1, rfl⟩, rfl⟩
          exact k _ (Same.upd hD)
    | _ => cases hs
def wholeD (d : D) : Bool := d.isInt && !d.isBool
def sp_is_whole : Sp := fun vs H Q _ => ∃ hd v d, vs = [v] ∧ DAt hd H v d ∧ Q (.bl (wholeD d)) H
theorem sc_is_whole : FnScope ["thing"] ["thing"] (defScope s_is_whole) := ⟨rfl, rfl, rfl, by decide +kernel, rfl, by decide +kernel, by decide +kernel⟩
theorem ok_is_whole (T : Txt K mg t w) : FnOk P w K mg base CX0 1 t.f_is_whole t.d_is_whole ["thing"] sp_is_whole := by
  refine T.is_whole.F.ok (k := 0) sc_is_whole (fun vs H Q E h => ?_) (fun cdv A outer s H vs Q E hr h => ?_)
  · obtain ⟨hd, v, d, rfl, _⟩ := h
    rfl
  · obtain ⟨hd, v, d, rfl, hv, k⟩ := h
    refine ⟨_, (@pss_one _ _ _ (@ps_ret _ _ _ _ (@pe_and _ _ _ _ _ _ _ (@pe_callB _ _ _ _ _ _ _ _ _ call_isinst (by rfl) T.b_isinstance PyProof.Rows.boot_isinstance (@pa_cons _ _ _ _ _ (pv 0) (@pa_cons _ _ _ _ _ (@pe_ty _ _ _ _ T.b_int PyProof.Rows.boot_int (by rfl) (by decide) (by decide)) (@pa_nil _) star_name) star_name) (by decide) (by decide) (by rfl) (by rfl)) (@pe_one _ _ _ _ _ (@pe_not _ _ _ _ (@pe_callB _ _ _ _ _ _ _ _ _ call_isinst (by rfl) T.b_isinstance PyProof.Rows.boot_isinstance (@pa_cons _ _ _ _ _ (pv 0) (@pa_cons _ _ _ _ _ (@pe_ty _ _ _ _ T.b_bool PyProof.Rows.boot_bool (by rfl) (by decide) (by decide)) (@pa_nil _) star_name) star_name) (by decide) (by decide) (by rfl) (by rfl))))))), ?_⟩
    exact st_ret (pu_and (pu_isi (pa_c (pu_v rfl) (pa_c pu_c pa_n)) hv.ty (kd_int d)) fun _ => pu_not (pu_isi (pa_c (pu_v rfl) (pa_c pu_c pa_n)) hv.ty (kd_bool d))) k
def sp_shape_of (K : PySem.W.Frag) : Sp := fun vs H Q _ => ∃ s, vs = [.str s] ∧ (shp s = none → Q .non H) ∧ ∀ ks a, shp s = some ks → (∀ H', SqT K H' a (ks.map fun k => V.str (kdS k))) → Q (.ref a) H
theorem sc_shape_of : FnScope ["word"] ["word"] (defScope s_shape_of) := ⟨rfl, rfl, rfl, by decide +kernel, rfl, by decide +kernel, by decide +kernel⟩
theorem ok_shape_of (T : Txt K mg t w) : FnOk P w K mg base CX0 1 t.f_shape_of t.d_shape_of ["word"] (sp_shape_of K) := by
  refine T.shape_of.F.ok (k := 0) sc_shape_of (fun vs H Q E h => ?_) (fun cdv A outer s H vs Q E hr h => ?_)
  · obtain ⟨s, rfl, _⟩ := h
    rfl
  · obtain ⟨x, rfl, k1, k2⟩ := h
    obtain ⟨l, hT, pr⟩ := T.shapes
    refine ⟨_, (@pss_one _ _ _ (@ps_ret _ _ _ _ (@pe_kget _ _ _ _ _ _ _ _ _ hT T.m_SHAPES (@pa_cons _ _ _ _ _ (pv 0) (@pa_nil _) star_name) (by rfl) (by decide) (by rfl) (by rfl) (by rfl) (by rfl) (by rfl)))), ?_⟩
    refine st_ret (v := tabV l x) (fun Q q => (pa_c (pu_v rfl) pa_n : PuA (tCons (tVar 0) tNil) _ _ [.str x]) _ ⟨x, rfl, q⟩) ?_
    rcases tab_find (s := x) pr with ⟨e1, e2⟩ | ⟨ks, a, e1, e2, hq⟩
    · rw [e2]
      exact k1 e1
    · rw [e2]
      exact k2 ks a e1 hq
def sp_is_wish_within (n : Nat) : Sp := fun vs H Q _ => ∃ hd v d, vs = [v, .int (n : Int)] ∧ DAt hd H v d ∧ ∀ H', Same H H' → Q (.bl (isW n d)) H'
def sp_is_part (n : Nat) : Sp := fun vs H Q _ => ∃ hd v d kd, vs = [.str (kdS kd), v, .int (n : Int)] ∧ DAt hd H v d ∧ ∀ H', Same H H' → Q (.bl (partOk (isW n) kd d)) H'
theorem sc_is_wish_within : FnScope ["thing", "depth", "shape"] ["thing", "depth"] (defScope s_is_wish_within) := ⟨rfl, rfl, rfl, by decide +kernel, rfl, by decide +kernel, by decide +kernel⟩
theorem sc_is_part : FnScope ["kind", "thing", "depth"] ["kind", "thing", "depth"] (defScope s_is_part) := ⟨rfl, rfl, rfl, by decide +kernel, rfl, by decide +kernel, by decide +kernel⟩
theorem part_name (W : D → Bool) (d : D) : partOk W .name d = isNm d := by cases d <;> rfl
theorem part_number (W : D → Bool) (d : D) : partOk W .number d = wholeD d := by cases d <;> rfl
theorem okB_isW (T : Txt K mg t w) {n k : Nat} (GW : FnOk P w K mg base CX0 k t.f_is_wish_within t.d_is_wish_within ["thing", "depth"] (sp_is_wish_within n)) (hk : 5 ≤ k) : FnOk P w K mg base CX0 (k + 1) t.f_is_part t.d_is_part ["kind", "thing", "depth"] (sp_is_part n) := by
  have ok_is_wish_within := fun (_ : Txt K mg t w) => GW
  refine T.is_part.F.ok (k := k) sc_is_part (fun vs H Q E h => ?_) (fun cdv A outer s H vs Q E hr h => ?_)
  · obtain ⟨hd, v, d, kd, rfl, _⟩ := h
    rfl
  · obtain ⟨hd, v, d, kd, rfl, hv, k⟩ := h
    refine ⟨_, (@pss_cons _ _ _ _ _ (@ps_if _ _ _ _ _ _ _ _ (@pt_cmpR _ _ _ _ _ _ _ _ op_eq (pv 0) (@pe_str _ _ _ _) (nomark _)) (@pss_one _ _ _ (@ps_ret _ _ _ _ (@pe_fn _ _ _ _ _ _ _ _ _ _ _ _ _ _ T.is_name (ok_is_name T) hr (by omega) (@pa_cons _ _ _ _ _ (pv 1) (@pa_nil _) star_name) (by rfl) (by decide) (by rfl) (by rfl)))) (@pss_nil _)) (@pss_cons _ _ _ _ _ (@ps_if _ _ _ _ _ _ _ _ (@pt_cmpR _ _ _ _ _ _ _ _ op_eq (pv 0) (@pe_str _ _ _ _) (nomark _)) (@pss_one _ _ _ (@ps_ret _ _ _ _ (@pe_fn _ _ _ _ _ _ _ _ _ _ _ _ _ _ T.is_whole (ok_is_whole T) hr (by omega) (@pa_cons _ _ _ _ _ (pv 1) (@pa_nil _) star_name) (by rfl) (by decide) (by rfl) (by rfl)))) (@pss_nil _)) (@pss_one _ _ _ (@ps_ret _ _ _ _ (@pe_fn _ _ _ _ _ _ _ _ _ _ _ _ _ _ T.is_wish_within (ok_is_wish_within T) hr (by omega) (@pa_cons _ _ _ _ _ (pv 1) (@pa_cons _ _ _ _ _ (pv 2) (@pa_nil _) star_name) star_name) (by rfl) (by decide) (by rfl) (by rfl)))))), ?_⟩
    cases kd with
    | name =>
      rw [part_name] at k
      refine st_ifN (pt_t (pu_eqStr (pu_v rfl) pu_c)) (fun _ => ?_) (fun e => absurd e (by decide +kernel))
      exact st_retG (R := fun v H' => v = .bl (isNm d) ∧ Same H H') (gv_call (pa_c (pu_v rfl) pa_n) fun Q q => ⟨hd, v, d, rfl, hv, fun H' s => q _ _ ⟨rfl, s⟩⟩) fun _ H' e => by obtain ⟨rfl, s⟩ := e; exact k H' s
    | number =>
      rw [part_number] at k
      refine st_ifN (pt_t (pu_eqStr (pu_v rfl) pu_c)) (fun e => absurd e (by decide +kernel)) (fun _ => ?_)
      refine st_ifN (pt_t (pu_eqStr (pu_v rfl) pu_c)) (fun _ => ?_) (fun e => absurd e (by decide +kernel))
      exact st_ret (pu_call (pa_c (pu_v rfl) pa_n) fun Q q => ⟨hd, v, d, rfl, hv, q⟩) (k _ Same.rfl')
    | wish =>
      refine st_ifN (pt_t (pu_eqStr (pu_v rfl) pu_c)) (fun e => absurd e (by decide +kernel)) (fun _ => ?_)
      refine st_ifN (pt_t (pu_eqStr (pu_v rfl) pu_c)) (fun e => absurd e (by decide +kernel)) (fun _ => ?_)
      exact st_retG (R := fun v H' => v = .bl (isW n d) ∧ Same H H') (gv_call (pa_c (pu_v rfl) (pa_c (pu_v rfl) pa_n)) fun Q q => ⟨hd, v, d, rfl, hv, fun H' s => q _ _ ⟨rfl, s⟩⟩) fun _ H' e => by obtain ⟨rfl, s⟩ := e; exact k H' s
theorem at0 {x : V} {xs : List V} : atI (x :: xs) 0 = some x := atI_nat (j := 0) rfl
theorem pu_isN {σ : L2.St} {H : Hp} {ta tb : TE} {x : V} (ha : Pu ta σ H x) (hb : Pu tb σ H .non) : Pu (tOp (fun x y H Q => y = .non ∧ Q (.bl (decide (x = .non))) H) ta tb) σ H (.bl (decide (x = .non))) := fun _ q => ha _ (hb _ ⟨rfl, q⟩)
theorem partsOk_len (W : D → Bool) : ∀ (ks : List Kd) (ds : List D), ks.length ≠ ds.length → partsOk W ks ds = false
  | [], [], h => absurd rfl h
  | [], _ :: _, _ => rfl
  | _ :: _, [], _ => rfl
  | k :: ks, d :: ds, h => by
    have := partsOk_len W ks ds (fun e => h (by simp [e]))
    simp [partsOk, this]
theorem partsOk_all (W : D → Bool) : ∀ (ks : List Kd) (ds : List D), ks.length = ds.length → partsOk W ks ds = (List.zipWith (partOk W) ks ds).all id
  | [], [], _ => rfl
  | k :: ks, d :: ds, h => by
    have := partsOk_all W ks ds (by simpa using h)
    simp [partsOk, this]
theorem okA_isW (T : Txt K mg t w) {n k : Nat} {spP : Sp} (GP : FnOk P w K mg base CX0 k t.f_is_part t.d_is_part ["kind", "thing", "depth"] spP) (hk : 5 ≤ k) (hsp : ∀ m, n = m + 1 → spP = sp_is_part m) : FnOk P w K mg base CX0 (k + 1) t.f_is_wish_within t.d_is_wish_within ["thing", "depth"] (sp_is_wish_within n) := by
  have ok_is_part := fun (_ : Txt K mg t w) => GP
  refine T.is_wish_within.F.ok (k := k) sc_is_wish_within (fun vs H Q E h => ?_) (fun cdv A outer s H vs Q E hr h => ?_)
  · obtain ⟨hd, v, d, rfl, _⟩ := h
    rfl
  · obtain ⟨hd, v, d, rfl, hv, k⟩ := h
    refine ⟨_, (@pss_cons _ _ _ _ _ (@ps_if _ _ _ _ _ _ _ _ (PW.pt (@pw_or _ _ _ _ _ _ _ (@pt_cmpR _ _ _ _ _ _ _ _ op_eq (pv 1) (@pe_int _ _ _ _) (nomark _)) (@pw_or _ _ _ _ _ _ _ (@pt_not _ _ _ _ (@pt_val _ _ _ (@pe_callB _ _ _ _ _ _ _ _ _ call_isinst (by rfl) T.b_isinstance PyProof.Rows.boot_isinstance (@pa_cons _ _ _ _ _ (pv 0) (@pa_cons _ _ _ _ _ (@pe_ty _ _ _ _ T.b_tuple PyProof.Rows.boot_tuple (by rfl) (by decide) (by decide)) (@pa_nil _) star_name) star_name) (by decide) (by decide) (by rfl) (by rfl)) (by intro _; rfl))) (@pw_or _ _ _ _ _ _ _ (@pt_cmpR _ _ _ _ _ _ _ _ op_eq (@pe_callB _ _ _ _ _ _ _ _ _ call_len_seq (by rfl) T.b_len PySem.boot_len (@pa_cons _ _ _ _ _ (pv 0) (@pa_nil _) star_name) (by decide) (by decide) (by rfl) (by rfl)) (@pe_int _ _ _ _) (nomark _)) (@pw_or1 _ _ _ _ (@pt_not _ _ _ _ (@pt_val _ _ _ (@pe_callB _ _ _ _ _ _ _ _ _ call_isinst (by rfl) T.b_isinstance PyProof.Rows.boot_isinstance (@pa_cons _ _ _ _ _ (@pe_ix _ _ _ _ _ _ _ ix_tup (pv 0) (@pe_int _ _ _ _) (fun _ _ => rfl)) (@pa_cons _ _ _ _ _ (@pe_ty _ _ _ _ T.b_str PyProof.Rows.boot_str (by rfl) (by decide) (by decide)) (@pa_nil _) star_name) star_sub) (by decide) (by decide) (by rfl) (by rfl)) (by intro _; rfl)))))))) (@pss_one _ _ _ (@ps_ret _ _ _ _ (@pe_bl _ _ _ _))) (@pss_nil _)) (@pss_cons _ _ _ _ _ (@ps_set _ _ 2 _ _ _ _ sc_is_wish_within.nd rfl (Or.inl rfl) (@pe_fn _ _ _ _ _ _ _ _ _ _ _ _ _ _ T.shape_of (ok_shape_of T) hr (by omega) (@pa_cons _ _ _ _ _ (@pe_ix _ _ _ _ _ _ _ ix_tup (pv 0) (@pe_int _ _ _ _) (fun _ _ => rfl)) (@pa_nil _) star_sub) (by rfl) (by decide) (by rfl) (by rfl)) (by rfl) (by first | exact .inl rfl | exact .inr rfl | assumption)) (@pss_cons _ _ _ _ _ (@ps_if _ _ _ _ _ _ _ _ (PW.pt (@pw_or _ _ _ _ _ _ _ (@pt_cmpR _ _ _ _ _ _ _ _ op_isN (pv 2) (@pe_non _ _ _) (nomark _)) (@pw_or1 _ _ _ _ (@pt_cmpR _ _ _ _ _ _ _ _ op_ne (@pe_callB _ _ _ _ _ _ _ _ _ call_len_seq (by rfl) T.b_len PySem.boot_len (@pa_cons _ _ _ _ _ (pv 0) (@pa_nil _) star_name) (by decide) (by decide) (by rfl) (by rfl)) (@pe_op _ _ _ _ _ _ _ _ op_add (@pe_callB _ _ _ _ _ _ _ _ _ call_len_seq (by rfl) T.b_len PySem.boot_len (@pa_cons _ _ _ _ _ (pv 2) (@pa_nil _) star_name) (by decide) (by decide) (by rfl) (by rfl)) (@pe_int _ _ _ _)) (nomark _))))) (@pss_one _ _ _ (@ps_ret _ _ _ _ (@pe_bl _ _ _ _))) (@pss_nil _)) (@pss_one _ _ _ (@ps_ret _ _ _ _ (@pe_callB _ _ _ _ _ _ _ _ _ (call_all rfl) (by rfl) T.b_all PyProof.Rows.boot_all (@pa_cons _ _ _ _ _ (@pe_lcompC2 _ "kind" "part" "depth" _ _ _ _ _ _ _ _ _ 1 rfl (@pi_zipTT _ _ _ _ _ _ _ _ _ rfl T.b_zip PyProof.Rows.Boot.«zip» (@pa_cons _ _ _ _ _ (pv 2) (@pa_cons _ _ _ _ _ (@pe_slice _ _ _ _ _ _ _ _ _ _ sl_tup (pv 0) (@po_some _ _ _ (@pe_int _ _ _ _)) (@po_none _)) (@pa_nil _) star_sub) star_name) (by rfl) (by rfl)) (fun _ _ _ _ => pg_tupK (K := K) (n := 2) rfl rfl (@pgs_cons _ _ _ _ _ (@pg_name _ _ 0 _ (show (["kind", "part", "depth"] : List Str).Nodup from by decide +kernel) rfl (Or.inl rfl) (.inr rfl)) (@pgs_cons _ _ _ _ _ (@pg_name _ _ 1 _ (show (["kind", "part", "depth"] : List Str).Nodup from by decide +kernel) rfl (Or.inl rfl) (.inr rfl)) (@pgs_nil _) (by rfl)) (by rfl)) rfl rfl) (fun _ _ _ _ => (@pe_fn _ _ _ _ _ _ _ _ _ _ _ _ _ _ T.is_part (ok_is_part T) hr (by omega) (@pa_cons _ _ _ _ _ (pv 0) (@pa_cons _ _ _ _ _ (pv 1) (@pa_cons _ _ _ _ _ (@pe_op _ _ _ _ _ _ _ _ op_sub (pv 2) (@pe_int _ _ _ _)) (@pa_nil _) star_bin) star_name) star_name) (by rfl) (by decide) (by rfl) (by rfl))) rfl rfl (by decide +kernel) (by decide +kernel) rfl rfl rfl rfl rfl (by intro _; rfl)) (@pa_nil _) star_lc) (by decide) (by decide) (by rfl) (by rfl))))))), ?_⟩
    cases n with
    | zero =>
      refine st_ifN (b := true) (pt_or (b := true) (c := true) (pt_t (pu_cast (pu_eqI (pu_v rfl) pu_c) (by simp))) (fun e => by cases e)) (fun _ => ?_) (fun e => by cases e)
      exact st_ret pu_c (k _ Same.rfl')
    | succ n =>
    have e := hsp n rfl
    subst e
    have D0 : ∀ {σ : L2.St} {H' : Hp}, σ[1]? = some (some (.int ((n + 1 : Nat) : Int))) → PuT (tTest (tOp rEq (tVar 1) (tC (.int 0)))) σ H' false := fun h => pt_t (pu_cast (pu_eqI (pu_v h) pu_c) (by rw [decide_eq_false (by omega)]))
    by_cases ht : d.isTup = true
    case neg =>
      have e0 : d.isTup = false := by simpa using ht
      refine st_ifN (b := true) (pt_or (b := false) (c := true) (D0 rfl) fun _ => pt_or (b := true) (c := true) (pt_n (b := false) (pt_b (pu_isi (pa_c (pu_v rfl) (pa_c pu_c pa_n)) hv.ty (by rw [kd_tup, e0])))) (fun e => by cases e)) (fun _ => ?_) (fun e => by cases e)
      have e1 : isW (n + 1) d = false := by
        cases d <;> first | rfl | cases e0
      rw [e1] at k
      exact st_ret pu_c (k _ Same.rfl')
    cases hv with
    | @tup a xs ds h td =>
      cases td with
      | nil =>
        refine st_ifN (b := true) (pt_or (b := false) (c := true) (D0 rfl) fun _ => pt_or (b := false) (c := true) (pt_n (b := true) (pt_b (pu_isi (pa_c (pu_v rfl) (pa_c pu_c pa_n)) (.tup h) kit_same))) fun _ => pt_or (b := true) (c := true) (pt_t (pu_cast (pu_eqI (pu_lenT (pa_c (pu_v rfl) pa_n) (SqT.of h)) pu_c) (by simp))) (fun e => by cases e)) (fun _ => ?_) (fun e => by cases e)
        exact st_ret pu_c (k _ Same.rfl')
      | @cons x0 d0 xs ds h0 td =>
        by_cases hs : d0.isStr = true
        case neg =>
          have e0 : d0.isStr = false := by simpa using hs
          refine st_ifN (b := true) (pt_or (b := false) (c := true) (D0 rfl) fun _ => pt_or (b := false) (c := true) (pt_n (b := true) (pt_b (pu_isi (pa_c (pu_v rfl) (pa_c pu_c pa_n)) (.tup h) kit_same))) fun _ => pt_or (b := false) (c := true) (pt_t (pu_cast (pu_eqI (pu_lenT (pa_c (pu_v rfl) pa_n) (SqT.of h)) pu_c) (by rw [decide_eq_false]; simp; omega))) fun _ => pt_n (b := false) (pt_b (pu_isi (pa_c (pu_ixT (pu_v rfl) pu_c (SqT.of h) at0) (pa_c pu_c pa_n)) h0.ty (by rw [kd_str, e0])))) (fun _ => ?_) (fun e => by cases e)
          have e1 : isW (n + 1) (.tup (d0 :: ds)) = false := by
            cases d0 <;> first | rfl | cases e0
          rw [e1] at k
          exact st_ret pu_c (k _ Same.rfl')
        cases h0 with
        | str x hx =>
          have hlen := td.len
          refine st_ifN (b := false) (pt_or (b := false) (c := false) (D0 rfl) fun _ => pt_or (b := false) (c := false) (pt_n (b := true) (pt_b (pu_isi (pa_c (pu_v rfl) (pa_c pu_c pa_n)) (.tup h) kit_same))) fun _ => pt_or (b := false) (c := false) (pt_t (pu_cast (pu_eqI (pu_lenT (pa_c (pu_v rfl) pa_n) (SqT.of h)) pu_c) (by rw [decide_eq_false]; simp; omega))) fun _ => pt_n (b := true) (pt_b (pu_isi (pa_c (pu_ixT (pu_v rfl) pu_c (SqT.of h) at0) (pa_c pu_c pa_n)) (.str x) kit_same))) (fun e => by cases e) (fun _ => ?_)
          cases hp : shp x with
          | none =>
            have e1 : isW (n + 1) (.tup (.str x :: ds)) = false := by simp [isW, hp]
            rw [e1] at k
            refine st_set (v := .non) (pu_call (pa_c (pu_ixT (pu_v rfl) pu_c (SqT.of h) at0) pa_n) fun Q q => ⟨x, rfl, fun _ => q, fun ks a e _ => by rw [hp] at e; cases e⟩) ?_
            refine st_ifN (b := true) (pt_or (b := true) (c := true) (pt_t (pu_cast (pu_isN (pu_v rfl) pu_c) (by simp))) (fun e => by cases e)) (fun _ => ?_) (fun e => by cases e)
            exact st_ret pu_c (k _ Same.rfl')
          | some ks =>
            have e1 : isW (n + 1) (.tup (.str x :: ds)) = partsOk (isW n) ks ds := by simp [isW, hp]
            rw [e1] at k
            refine st_setG (R := fun v H' => H = H' ∧ ∃ a0, v = .ref a0 ∧ ∀ H', SqT K H' a0 (ks.map fun k => V.str (kdS k))) (gv_call (pa_c (pu_ixT (pu_v rfl) pu_c (SqT.of h) at0) pa_n) fun Q q => ⟨x, rfl, (fun e => by rw [hp] at e; cases e), fun ks' a e sq => by rw [hp] at e; cases e; exact q _ _ ⟨rfl, a, rfl, sq⟩⟩) ?_
            rintro _ _ ⟨rfl, a0, rfl, sq⟩
            have hcmp : ∀ {σ : L2.St}, σ[0]? = some (some (.ref a)) → σ[2]? = some (some (.ref a0)) → PuT (tOr (tTest (tOp (fun x y H Q => y = .non ∧ Q (.bl (decide (x = .non))) H) (tVar 2) (tC .non))) (tTest (tOp rNe (tCB (fun xs H Q => ∃ p ys, xs = [.ref p] ∧ (SqL K H p ys ∨ SqT K H p ys) ∧ Q (.int ys.length) H) (tCons (tVar 0) tNil)) (tOp (rI0 fun i j => .int (i + j)) (tCB (fun xs H Q => ∃ p ys, xs = [.ref p] ∧ (SqL K H p ys ∨ SqT K H p ys) ∧ Q (.int ys.length) H) (tCons (tVar 2) tNil)) (tC (.int 1)))))) σ H (!decide (ds.length = ks.length)) := fun h0 h2 => by
              refine pt_or (b := false) (c := !decide (ds.length = ks.length)) (pt_t (pu_cast (pu_isN (pu_v h2) pu_c) (by simp))) fun _ => pt_t (pu_cast (pu_neI (pu_lenT (pa_c (pu_v h0) pa_n) (SqT.of h)) (pu_add (pu_lenT (pa_c (pu_v h2) pa_n) (sq H)) pu_c)) ?_)
              rw [List.length_map, List.length_cons, hlen]
              congr 2
              rw [decide_eq_decide]
              omega
            refine st_ifN (hcmp rfl rfl) (fun e => ?_) (fun e => ?_)
            · have ne : ks.length ≠ ds.length := by
                intro z
                simp [z] at e
              rw [partsOk_len _ _ _ ne] at k
              exact st_ret pu_c (k _ Same.rfl')
            · have eq : ds.length = ks.length := by simpa using e
              rw [partsOk_all _ _ _ eq.symm] at k
              have hz : ks.length ≤ 1000 := by
                have : ∀ q ∈ shTab, q.2.length ≤ 1000 := by decide +kernel
                unfold shp at hp
                cases hf : shTab.find? (fun p => p.1 == x) with
                | none => rw [hf] at hp; cases hp
                | some q =>
                  rw [hf] at hp
                  cases hp
                  exact this q (List.mem_of_find?_eq_some hf)
              refine st_retG (gv_all (List.zipWith (partOk (isW n)) ks ds) (gv_compZT (xs := ks.map fun k => V.str (kdS k)) (ys := xs) (ws := (List.zipWith (partOk (isW n)) ks ds).map V.bl) (f := [some (.int ((n + 1 : Nat) : Int))]) rfl (ga_cons (Pu.gv (v := .ref a0) (pu_v rfl)) fun _ _ e1 => ga_cons (R1 := fun v H' => ∃ p, H p = none ∧ v = .ref p ∧ H' = upd H p (.tup xs)) (by obtain ⟨rfl, rfl⟩ := e1; exact gv_tl (pu_v rfl) h) fun _ _ _ => ga_nil) ?_ (by rw [List.length_map]; exact hz) (by rw [List.length_map, hlen, eq]) (by rw [List.length_map, List.length_map, List.length_zipWith, eq, Nat.min_self]) ?_) ?_) ?_
              · rintro vs H1 ⟨_, _, r, rfl, ⟨rfl, rfl⟩, _, _, r2, rfl, ⟨p, hp', rfl, rfl⟩, rfl, rfl⟩
                exact ⟨a0, p, rfl, Same.upd hp', fun H2 s => sq H2, fun H2 s => SqT.of (s _ _ upd_same)⟩
              · intro i u y b H' hu hy hb s
                obtain ⟨di, hdi, hy'⟩ := td.get hy
                rw [List.getElem?_map] at hu
                cases hki : ks[i]? with
                | none => rw [hki] at hu; cases hu
                | some ki =>
                  rw [hki] at hu
                  have e1 : V.str (kdS ki) = u := Option.some.inj hu
                  subst e1
                  rw [List.getElem?_map, List.getElem?_zipWith, hki, hdi] at hb
                  have e2 : V.bl (partOk (isW n) ki di) = b := Option.some.inj hb
                  subst e2
                  refine gv_call (pa_c (pu_v rfl) (pa_c (pu_v rfl) (pa_c (pu_sub (pu_v rfl) pu_c) pa_n))) fun Q q => ⟨hd, y, di, ki, ?_, hy'.same s, fun H'' s' => q _ _ ⟨rfl, s'⟩⟩
                  show [V.str (kdS ki), y, V.int (((n + 1 : Nat) : Int) - 1)] = _
                  rw [show (((n + 1 : Nat) : Int) - 1) = (n : Int) by omega]
              · rintro v H' ⟨s', D, rfl, _, hD⟩
                exact ⟨D, rfl, SqL.of hD⟩
              · rintro v H' ⟨⟨p, s', D, e1, _, hD⟩, rfl⟩
                exact k _ s'
        | _ => cases hs
    | _ => cases ht
theorem okr_isW (T : Txt K mg t w) : ∀ n : Nat, FnOk P w K mg base CX0 (6 + 2 * n) t.f_is_wish_within t.d_is_wish_within ["thing", "depth"] (sp_is_wish_within n)
  | 0 => okA_isW T ((T.is_part.F.okNo sc_is_part).mono (by decide : 1 ≤ 5)) (by decide) (fun m e => by cases e)
  | n + 1 => okA_isW T (k := 7 + 2 * n) ((okB_isW T (okr_isW T n) (by omega)).mono (by omega)) (by omega) (fun m e => by cases e; rfl) |>.mono (by omega)
theorem ok_is_wish_within (T : Txt K mg t w) : FnOk P w K mg base CX0 18 t.f_is_wish_within t.d_is_wish_within ["thing", "depth"] (sp_is_wish_within 6) := okr_isW T 6
def sp_is_wish : Sp := fun vs H Q _ => ∃ hd v d, vs = [v] ∧ DAt hd H v d ∧ ∀ H', Same H H' → Q (.bl (isW 6 d)) H'
theorem sc_is_wish : FnScope ["thing"] ["thing"] (defScope s_is_wish) := ⟨rfl, rfl, rfl, by decide +kernel, rfl, by decide +kernel, by decide +kernel⟩
theorem ok_is_wish (T : Txt K mg t w) : FnOk P w K mg base CX0 19 t.f_is_wish t.d_is_wish ["thing"] sp_is_wish := by
  refine T.is_wish.F.ok (k := 18) sc_is_wish (fun vs H Q E h => ?_) (fun cdv A outer s H vs Q E hr h => ?_)
  · obtain ⟨hd, v, d, rfl, _⟩ := h
    rfl
  · obtain ⟨hd, v, d, rfl, hv, k⟩ := h
    refine ⟨_, (@pss_one _ _ _ (@ps_ret _ _ _ _ (@pe_fn _ _ _ _ _ _ _ _ _ _ _ _ _ _ T.is_wish_within (ok_is_wish_within T) hr (by decide) (@pa_cons _ _ _ _ _ (pv 0) (@pa_cons _ _ _ _ _ (@pe_konI _ _ _ _ T.k_DEEPEST (by rfl) (by decide)) (@pa_nil _) star_name) star_name) (by rfl) (by decide) (by rfl) (by rfl)))), ?_⟩
    exact st_retG (R := fun v H' => v = .bl (isW 6 d) ∧ Same H H') (gv_call (pa_c (pu_v rfl) (pa_c pu_c pa_n)) fun Q q => ⟨hd, v, d, rfl, hv, fun H' s => q _ _ ⟨rfl, s⟩⟩) fun _ H' e => by obtain ⟨rfl, s⟩ := e; exact k H' s
def spx_check_wish (t : Adr) : Sp := fun vs H Q E => ∃ hd v d, vs = [v] ∧ DAt hd H v d ∧ (isW 6 d = true → ∀ H', Same H H' → Q .non H') ∧ (isW 6 d = false → ∀ H', Same H H' → E (.ref t.c_BadWish) none H')
theorem sc_check_wish : FnScope ["thing"] ["thing"] (defScope s_check_wish) := ⟨rfl, rfl, rfl, by decide +kernel, rfl, by decide +kernel, by decide +kernel⟩
theorem okx_check_wish (T : Txt K mg t w) : FnOk P w K mg base (CXE P w) 20 t.f_check_wish t.d_check_wish ["thing"] (spx_check_wish t) := by
  refine T.check_wish.F.okE (k := 19) sc_check_wish (fun vs H Q E h => ?_) (fun cdv A outer s H vs Q E hr h => ?_)
  · obtain ⟨hd, v, d, rfl, _⟩ := h
    rfl
  · obtain ⟨hd, v, d, rfl, hv, k1, k2⟩ := h
    refine ⟨_, (@pss_one _ _ _ (@ps_if _ _ _ _ _ _ _ _ (@pt_not _ _ _ _ (@pt_val _ _ _ (@pe_fn _ _ _ _ _ _ _ _ _ _ _ _ _ _ T.is_wish (ok_is_wish T) hr (by decide) (@pa_cons _ _ _ _ _ (pv 0) (@pa_nil _) star_name) (by rfl) (by decide) (by rfl) (by rfl)) (by intro _; rfl))) (@pss_one _ _ _ (@ps_raise0 _ _ _ _ _ _ _ _ _ _ _ _ _ _ _ _ _ _ _ _ T.e_BadWish T.m_BadWish rfl (by decide))) (@pss_nil _))), ?_⟩
    exact st_ifNG1 (R := fun b H' => b = (!isW 6 d) ∧ Same H H') (fun Q q => gv_call (sp := sp_is_wish) (E := E0) (R := fun v H' => v = .bl (isW 6 d) ∧ Same H H') (pa_c (pu_v rfl) pa_n) (fun Q g => ⟨hd, v, d, rfl, hv, fun H' s => g _ _ ⟨rfl, s⟩⟩) _ fun v' H' r => ⟨isW 6 d, r.1, q _ _ ⟨rfl, r.2⟩⟩) (fun H' e => k2 (by simpa using e.1) H' e.2) (fun H' e => k1 (by simpa using e.1) H' e.2)
def sp_words_of_wish (n : Nat) : Sp := fun vs H Q _ => ∃ hd v w, vs = [v] ∧ DAt hd H v (Wi.d w) ∧ w.deep ≤ n ∧ n ≤ 7 ∧ w.names ∧ w.nums (Bd 700) ∧ ∀ H', Same H H' → Q (.str w.text) H'
def sp_show_part (n : Nat) : Sp := fun vs H Q _ => ∃ hd v p, vs = [.str (kdS (Pa.kd p)), v] ∧ DAt hd H v p.d ∧ p.deep ≤ n ∧ n ≤ 7 ∧ p.names ∧ p.nums (Bd 700) ∧ ∀ H', Same H H' → Q (.str p.text) H'
theorem sc_words_of_wish : FnScope ["wish", "parts"] ["wish"] (defScope s_words_of_wish) := ⟨rfl, rfl, rfl, by decide +kernel, rfl, by decide +kernel, by decide +kernel⟩
theorem sc_show_part : FnScope ["kind", "part"] ["kind", "part"] (defScope s_show_part) := ⟨rfl, rfl, rfl, by decide +kernel, rfl, by decide +kernel, by decide +kernel⟩
theorem gv_if {σ : L2.St} {H : Hp} {tc : TT} {ta tb : TE} {b : Bool} {R : V → Hp → Prop} (hc : PuT tc σ H b) (h1 : b = true → Gv ta σ H R) (h2 : b = false → Gv tb σ H R) : Gv (tIf tc ta tb) σ H R := fun Q q => hc _ (by
  cases b with
  | true => exact h1 rfl Q q
  | false => exact h2 rfl Q q)
theorem okB_words (T : Txt K mg t w) {n k : Nat} (GW : FnOk P w K mg base CX0 k t.f_words_of_wish t.d_words_of_wish ["wish"] (sp_words_of_wish n)) (hk : 5 ≤ k) : FnOk P w K mg base CX0 (k + 1) t.f_show_part t.d_show_part ["kind", "part"] (sp_show_part n) := by
  have ok_words_of_wish := fun (_ : Txt K mg t w) => GW
  refine T.show_part.F.ok (k := k) sc_show_part (fun vs H Q E h => ?_) (fun cdv A outer s H vs Q E hr h => ?_)
  · obtain ⟨hd, v, p, rfl, _⟩ := h
    rfl
  · obtain ⟨hd, v, p, rfl, hv, dp, n7, nn, nk, k⟩ := h
    refine ⟨_, (@pss_one _ _ _ (@ps_ret _ _ _ _ (@pe_ifExp _ _ _ _ _ _ _ _ (@pt_cmpR _ _ _ _ _ _ _ _ op_eq (pv 0) (@pe_str _ _ _ _) (nomark _)) (@pe_fn _ _ _ _ _ _ _ _ _ _ _ _ _ _ T.words_of_wish (ok_words_of_wish T) hr (by omega) (@pa_cons _ _ _ _ _ (pv 1) (@pa_nil _) star_name) (by rfl) (by decide) (by rfl) (by rfl)) (@pe_callTy _ _ _ _ _ _ _ _ _ call_strD (by rfl) T.b_str PyProof.Rows.boot_str (@pa_cons _ _ _ _ _ (pv 1) (@pa_nil _) star_name) (by decide) (by decide) (by rfl) (by rfl))))), ?_⟩
    refine st_retG (R := fun v H' => v = .str p.text ∧ Same H H') (gv_if (pt_t (pu_eqStr (pu_v rfl) pu_c)) (fun e => ?_) (fun e => ?_)) fun _ H' e => by obtain ⟨rfl, s⟩ := e; exact k H' s
    · cases p with
      | nm s => exact absurd e (by show ¬ decide (kdS .name = _) = true; decide +kernel)
      | nb k => exact absurd e (by show ¬ decide (kdS .number = _) = true; decide +kernel)
      | ws u => exact gv_call (pa_c (pu_v rfl) pa_n) fun Q q => ⟨hd, v, u, rfl, hv, dp, n7, nn, nk, fun H' s => q _ _ ⟨rfl, s⟩⟩
    · cases p with
      | nm s =>
        cases hv
        exact Pu.gv' (v := .str s) (fun Q q => (pa_c (pu_v rfl) pa_n : PuA (tCons (tVar 1) tNil) _ _ [.str s]) _ (.inr ⟨s, rfl, q⟩)) ⟨rfl, Same.rfl'⟩
      | nb z =>
        cases hv
        exact Pu.gv' (v := .str (tx z)) (fun Q q => (pa_c (pu_v rfl) pa_n : PuA (tCons (tVar 1) tNil) _ _ [.int z]) _ (.inl ⟨z, rfl, bd_log (Bd.mono nk (by decide)), q⟩)) ⟨rfl, Same.rfl'⟩
      | ws u => exact absurd e (by show ¬ decide (kdS .wish = _) = false; decide +kernel)
theorem okA_words (T : Txt K mg t w) {n k : Nat} (GP : FnOk P w K mg base CX0 k t.f_show_part t.d_show_part ["kind", "part"] (sp_show_part n)) (hk : 5 ≤ k) : FnOk P w K mg base CX0 (k + 1) t.f_words_of_wish t.d_words_of_wish ["wish"] (sp_words_of_wish (n + 1)) := by
  have ok_show_part := fun (_ : Txt K mg t w) => GP
  refine T.words_of_wish.F.ok (k := k) sc_words_of_wish (fun vs H Q E h => ?_) (fun cdv A outer s H vs Q E hr h => ?_)
  · obtain ⟨hd, v, d, rfl, _⟩ := h
    rfl
  · obtain ⟨hd, v, u, rfl, hv, dp, n7, nn, nk, k⟩ := h
    refine ⟨_, (@pss_cons _ _ _ _ _ (@ps_setC _ 1 _ _ _ _ _ _ _ _ _ sc_words_of_wish.nd rfl rfl (@cr_lcomp _ _ _ _ _ [] _ (["kind", "part"]) _ (fun _ => [none, none]) _ _ rfl (@pi_zipTT _ _ _ _ _ _ _ _ _ rfl T.b_zip PyProof.Rows.Boot.«zip» (@pa_cons _ _ _ _ _ (@pe_fn _ _ _ _ _ _ _ _ _ _ _ _ _ _ T.shape_of (ok_shape_of T) hr (by omega) (@pa_cons _ _ _ _ _ (@pe_ix _ _ _ _ _ _ _ ix_tup (pv 0) (@pe_int _ _ _ _) (fun _ _ => rfl)) (@pa_nil _) star_sub) (by rfl) (by decide) (by rfl) (by rfl)) (@pa_cons _ _ _ _ _ (@pe_slice _ _ _ _ _ _ _ _ _ _ sl_tup (pv 0) (@po_some _ _ _ (@pe_int _ _ _ _)) (@po_none _)) (@pa_nil _) star_sub) star_call) (by rfl) (by rfl)) (fun _ _ _ _ => pg_tupK (K := K) (n := 2) rfl rfl (@pgs_cons _ _ _ _ _ (@pg_name _ _ 0 _ (show (["kind", "part"] : List Str).Nodup from by decide +kernel) rfl (Or.inl rfl) (.inr rfl)) (@pgs_cons _ _ _ _ _ (@pg_name _ _ 1 _ (show (["kind", "part"] : List Str).Nodup from by decide +kernel) rfl (Or.inl rfl) (.inr rfl)) (@pgs_nil _) (by rfl)) (by rfl)) rfl rfl) (fun _ _ _ _ => (@pe_fn _ _ _ _ _ _ _ _ _ _ _ _ _ _ T.show_part (ok_show_part T) hr (by omega) (@pa_cons _ _ _ _ _ (pv 0) (@pa_cons _ _ _ _ _ (pv 1) (@pa_nil _) star_name) star_name) (by rfl) (by decide) (by rfl) (by rfl))) (closureFor_none (by decide +kernel)) rfl (by decide +kernel) (by decide +kernel) (fun _ _ h => by cases h) (noCells (by rfl)) (fun _ _ => rfl) (fun _ i _ _ _ h => by rcases i with _ | _ | _ | i <;> simp at h) (by intro _; rfl)) (by rfl)) (@pss_one _ _ _ (@ps_ret _ _ _ _ (@pe_bm _ _ _ _ _ _ _ _ _ _ _ _ PySem.F.plainAttrs_str PySem.F.slot_str_join PySem.F.type_str_join mt_join (@pe_str _ _ _ _) (@pa_cons _ _ _ _ _ (@pe_op _ _ _ _ _ _ _ _ op_cat (@pe_lst _ _ _ _ (@pa_cons _ _ _ _ _ (@pe_ix _ _ _ _ _ _ _ ix_tup (pv 0) (@pe_int _ _ _ _) (fun _ _ => rfl)) (@pa_nil _) star_sub)) (pv 1)) (@pa_nil _) star_bin) (by rfl) (by rfl) (by rfl) (by rfl) (by rfl))))), ?_⟩
    rw [u.d_eq] at hv
    cases hv with
    | @tup a xs ds h td =>
      cases td with
      | @cons x0 d0 xs ds h0 td =>
        cases h0 with
        | str _ hx =>
          have hlen := td.len
          rw [List.length_map] at hlen
          have p2 := u.parts_le
          have d1 := (u.deep_iff n).mp dp
          have n1 := u.names_iff.mp nn
          have k1 := (u.nums_iff _).mp nk
          refine st_setG (gv_compZT (xs := (u.parts.map Pa.kd).map fun k => V.str (kdS k)) (ys := xs) (ws := (u.parts.map Pa.text).map V.str) (f := []) rfl (ga_cons (R1 := fun v H' => H = H' ∧ ∃ a0, v = .ref a0 ∧ ∀ H', SqT K H' a0 ((u.parts.map Pa.kd).map fun k => V.str (kdS k))) (gv_call (pa_c (pu_ixT (pu_v rfl) pu_c (SqT.of h) at0) pa_n) fun Q q => ⟨u.word, rfl, (fun e => by rw [u.shp_eq] at e; cases e), fun ks' a e sq => by rw [u.shp_eq] at e; cases e; exact q _ _ ⟨rfl, a, rfl, sq⟩⟩) fun _ _ e1 => ga_cons (R1 := fun v H' => ∃ p, H p = none ∧ v = .ref p ∧ H' = upd H p (.tup xs)) (by obtain ⟨rfl, _⟩ := e1; exact gv_tl (pu_v rfl) h) fun _ _ _ => ga_nil) ?_ (by rw [List.length_map, List.length_map]; omega) (by rw [List.length_map, List.length_map]; exact hlen) (by rw [List.length_map, List.length_map, List.length_map, List.length_map]) ?_) ?_
          · rintro vs H1 ⟨_, _, r, rfl, ⟨rfl, a0, rfl, sq⟩, _, _, r2, rfl, ⟨p, hp', rfl, rfl⟩, rfl, rfl⟩
            exact ⟨a0, p, rfl, Same.upd hp', fun H2 s => sq H2, fun H2 s => SqT.of (s _ _ upd_same)⟩
          · intro i z y b H' hz hy hb s
            obtain ⟨di, hdi, hy'⟩ := td.get hy
            rw [List.getElem?_map] at hdi
            rw [List.getElem?_map, List.getElem?_map] at hz hb
            cases hpi : u.parts[i]? with
            | none => rw [hpi] at hdi; cases hdi
            | some p =>
              rw [hpi] at hdi hz hb
              have e1 : p.d = di := Option.some.inj hdi
              have e2 : V.str (kdS p.kd) = z := Option.some.inj hz
              have e3 : V.str p.text = b := Option.some.inj hb
              subst e1 e2 e3
              have hm := List.mem_of_getElem? hpi
              exact gv_call (pa_c (pu_v rfl) (pa_c (pu_v rfl) pa_n)) fun Q q => ⟨hd, y, p, rfl, hy'.same s, d1 p hm, by omega, n1 p hm, k1 p hm, fun H'' s' => q _ _ ⟨rfl, s'⟩⟩
          rintro _ H1 ⟨s1, D, rfl, _, hD⟩
          have tl : ∀ t ∈ u.word :: u.parts.map Pa.text, t.length ≤ 751 * 3 ^ 7 := fun t ht => by
            have p7 : 3 ^ n ≤ 3 ^ 7 := Nat.pow_le_pow_right (by decide) (by omega)
            rcases List.mem_cons.mp ht with rfl | ht
            · exact Nat.le_trans u.word_le (by decide)
            · obtain ⟨p, hp, rfl⟩ := List.mem_map.mp ht
              cases p with
              | nm s => exact Nat.le_trans (name_len (n1 _ hp)).2 (by decide)
              | nb z => exact Nat.le_trans (tx_len4 (k1 _ hp)) (by decide)
              | ws v => exact Nat.le_trans (Wi.text_len n v (d1 _ hp) (n1 _ hp) (k1 _ hp)) (Nat.mul_le_mul_left _ p7)
          refine st_retG (R := fun v H' => v = .str u.text ∧ Same H H') (gv_join (R := fun v H' => Same H H' ∧ ∃ l, v = .ref l ∧ H' l = some (.lst ((u.word :: u.parts.map Pa.text).map V.str))) (fun _ => pu_c) (fun Q q => ?_) ?_) fun _ H' e => by obtain ⟨rfl, s⟩ := e; exact k H' s
          · refine gv_lst (pa_c (pu_ixT (pu_v rfl) pu_c (SqT.of (s1 _ _ h)) at0) pa_n) (by show 1 ≤ sizeLine; decide) _ ?_
            rintro _ _ ⟨p, hp, rfl, rfl⟩
            refine (pu_v rfl : Pu (tVar 1) _ _ (.ref D)) _ ⟨p, D, [.str u.word], (u.parts.map Pa.text).map V.str, rfl, rfl, upd_same, ?_, ?_, fun p' hp' => q _ _ ⟨s1.trans ((Same.upd hp).trans (Same.upd hp')), p', rfl, upd_same⟩⟩
            · rw [upd_ne (ne_of_none hD hp)]
              exact hD
            · rw [List.length_map, List.length_map]
              exact Nat.le_trans (show 1 + u.parts.length ≤ 3 by omega) (by decide)
          · rintro _ H2 ⟨s2, l, rfl, hl⟩
            refine ⟨l, _, rfl, hl, joinOk_of (b := 751 * 3 ^ 7) (m := 3) tl (by rw [List.length_cons, List.length_map]; omega) (by decide +kernel), ?_, s2⟩
            rw [← u.text_eq]
theorem okr_words (T : Txt K mg t w) : ∀ n : Nat, FnOk P w K mg base CX0 (6 + 2 * n) t.f_words_of_wish t.d_words_of_wish ["wish"] (sp_words_of_wish n)
  | 0 => ((T.words_of_wish.F.okNo sc_words_of_wish).mono (by decide : 1 ≤ 6)).imp fun vs H Q E h => by
    obtain ⟨hd, v, u, _, _, dp, _⟩ := h
    have := u.deep_pos
    omega
  | n + 1 => (okA_words T (k := 7 + 2 * n) ((okB_words T (okr_words T n) (by omega)).mono (by omega)) (by omega)).mono (by omega)
theorem ok_words_of_wish (T : Txt K mg t w) : FnOk P w K mg base CX0 20 t.f_words_of_wish t.d_words_of_wish ["wish"] (sp_words_of_wish 7) := okr_words T 7
def spx_show_wish (t : Adr) : Sp := fun vs H Q E => ∃ hd v d, vs = [v] ∧ DAt hd H v d ∧ ((∃ u : Wi, d = u.d ∧ u.deep ≤ 6 ∧ u.names ∧ u.nums (Bd 700) ∧ ∀ H', Same H H' → Q (.str u.text) H') ∨ (isW 6 d = false ∧ ∀ H', Same H H' → E (.ref t.c_BadWish) none H'))
theorem sc_show_wish : FnScope ["wish"] ["wish"] (defScope s_show_wish) := ⟨rfl, rfl, rfl, by decide +kernel, rfl, by decide +kernel, by decide +kernel⟩
theorem okx_show_wish (T : Txt K mg t w) : FnOk P w K mg base (CXE P w) 21 t.f_show_wish t.d_show_wish ["wish"] (spx_show_wish t) := by
  refine T.show_wish.F.okE (k := 20) sc_show_wish (fun vs H Q E h => ?_) (fun cdv A outer s H vs Q E hr h => ?_)
  · obtain ⟨hd, v, d, rfl, _⟩ := h
    rfl
  · obtain ⟨hd, v, d, rfl, hv, kk⟩ := h
    refine ⟨_, (@pss_cons _ _ _ _ _ (@ps_expr _ _ _ _ (@pe_fnX _ _ _ _ _ _ _ _ _ _ _ _ _ _ _ _ _ T.check_wish (okx_check_wish T) hr (by decide) passX (@pa_cons _ _ _ _ _ (pv 0) (@pa_nil _) star_name) (by rfl) (by decide) (by rfl) (by rfl)) (by rfl)) (@pss_one _ _ _ (@ps_ret _ _ _ _ (@pe_fn _ _ _ _ _ _ _ _ _ _ _ _ _ _ T.words_of_wish (ok_words_of_wish T) hr (by decide) (@pa_cons _ _ _ _ _ (pv 0) (@pa_nil _) star_name) (by rfl) (by decide) (by rfl) (by rfl))))), ?_⟩
    rcases kk with ⟨u, rfl, dp, nn, nk, k⟩ | ⟨bad, k⟩
    · have good : isW 6 u.d = true := by rw [u.isW_d 6 nn, decide_eq_true dp]
      refine st_exprG (R := fun _ H' => Same H H') (gv_call (pa_c (pu_v rfl) pa_n) fun Q q => ⟨hd, v, u.d, rfl, hv, fun _ H' s => q _ _ s, fun e => by rw [good] at e; cases e⟩) ?_
      intro _ H1 s1
      exact st_retG (R := fun v H' => v = .str u.text ∧ Same H H') (gv_call (pa_c (pu_v rfl) pa_n) fun Q q => ⟨hd, v, u, rfl, hv.same s1, by omega, by decide, nn, nk, fun H' s => q _ _ ⟨rfl, s1.trans s⟩⟩) fun _ H' e => by obtain ⟨rfl, s⟩ := e; exact k H' s
    · exact st_exprG (R := fun _ _ => False) (gv_call (pa_c (pu_v rfl) pa_n) fun Q q => ⟨hd, v, d, rfl, hv, (fun e => by rw [bad] at e; cases e), fun _ => k⟩) fun _ _ z => z.elim
def sp_check_text : Sp := fun vs H Q _ => ∃ x, vs = [.str x] ∧ Q .non H
theorem sc_check_text : FnScope ["text"] ["text"] (defScope s_check_text) := ⟨rfl, rfl, rfl, by decide +kernel, rfl, by decide +kernel, by decide +kernel⟩
theorem ok_check_text (T : Txt K mg t w) : FnOk P w K mg base CX0 1 t.f_check_text t.d_check_text ["text"] sp_check_text := by
  refine T.check_text.F.ok (k := 0) sc_check_text (fun vs H Q E h => ?_) (fun cdv A outer s H vs Q E hr h => ?_)
  · obtain ⟨x, rfl, _⟩ := h
    rfl
  · obtain ⟨x, rfl, k⟩ := h
    refine ⟨_, (@pss_one _ _ _ (@ps_if _ _ _ _ _ _ _ _ (@pt_not _ _ _ _ (@pt_val _ _ _ (@pe_callB _ _ _ _ _ _ _ _ _ call_isinst (by rfl) T.b_isinstance PyProof.Rows.boot_isinstance (@pa_cons _ _ _ _ _ (pv 0) (@pa_cons _ _ _ _ _ (@pe_ty _ _ _ _ T.b_str PyProof.Rows.boot_str (by rfl) (by decide) (by decide)) (@pa_nil _) star_name) star_name) (by decide) (by decide) (by rfl) (by rfl)) (by intro _; rfl))) (@pss_one _ _ _ (@ps_never _ _)) (@pss_nil _))), ?_⟩
    exact st_ifN1 (pt_n (b := true) (pt_b (pu_isi (pa_c (pu_v rfl) (pa_c pu_c pa_n)) (.str x) kit_same))) (fun e => by simp at e) fun _ => k
/-- a number of at most sixty figures is read; a longer one makes it raise -/
def spx_read_whole (t : Adr) : Sp := fun vs H Q E => ∃ n : Int, vs = [.str (tx n)] ∧ Bd 700 n ∧ (n.natAbs < 10 ^ 60 → ∀ H', Same H H' → Q (.int n) H') ∧ (10 ^ 60 ≤ n.natAbs → E (.ref t.c_NoText) none H)
theorem sc_read_whole : FnScope ["text", "figures"] ["text"] (defScope s_read_whole) := ⟨rfl, rfl, rfl, by decide +kernel, rfl, by decide +kernel, by decide +kernel⟩
theorem okx_read_whole (T : Txt K mg t w) : FnOk P w K mg base (CXE P w) 2 t.f_read_whole t.d_read_whole ["text"] (spx_read_whole t) := by
  refine T.read_whole.F.okE (k := 1) sc_read_whole (fun vs H Q E h => ?_) (fun cdv A outer s H vs Q E hr h => ?_)
  · obtain ⟨n, rfl, _⟩ := h
    rfl
  · obtain ⟨n, rfl, bn, k, kx⟩ := h
    refine ⟨_, (@pss_cons _ _ _ _ _ (@ps_expr _ _ _ _ (@pe_fn _ _ _ _ _ _ _ _ _ _ _ _ _ _ T.check_text (ok_check_text T) hr (by decide) (@pa_cons _ _ _ _ _ (pv 0) (@pa_nil _) star_name) (by rfl) (by decide) (by rfl) (by rfl)) (by rfl)) (@pss_cons _ _ _ _ _ (@ps_set _ _ 1 _ _ _ _ sc_read_whole.nd rfl (Or.inl rfl) (@pe_ifExp _ _ _ _ _ _ _ _ (@pt_val _ _ _ (@pe_bm _ _ _ _ _ _ _ _ _ _ _ _ PySem.F.plainAttrs_str PySem.F.slot_str_startswith PySem.F.type_str_startswith mt_starts (pv 0) (@pa_cons _ _ _ _ _ (@pe_str _ _ _ _) (@pa_nil _) star_con) (by rfl) (by rfl) (by rfl) (by rfl) (by rfl)) (by intro _; rfl)) (@pe_slice _ _ _ _ _ _ _ _ _ _ sl_str1 (pv 0) (@po_some _ _ _ (@pe_int _ _ _ _)) (@po_none _)) (pv 0)) (by rfl) (by first | exact .inl rfl | exact .inr rfl | assumption)) (@pss_cons _ _ _ _ _ (@ps_if _ _ _ _ _ _ _ _ (PW.pt (@pw_or _ _ _ _ _ _ _ (@pt_cmpR _ _ _ _ _ _ _ _ op_lt (@pe_callB _ _ _ _ _ _ _ _ _ call_len_str (by rfl) T.b_len PySem.boot_len (@pa_cons _ _ _ _ _ (pv 1) (@pa_nil _) star_name) (by decide) (by decide) (by rfl) (by rfl)) (@pe_int _ _ _ _) (nomark _)) (@pw_or _ _ _ _ _ _ _ (@pt_cmpR _ _ _ _ _ _ _ _ op_gt (@pe_callB _ _ _ _ _ _ _ _ _ call_len_str (by rfl) T.b_len PySem.boot_len (@pa_cons _ _ _ _ _ (pv 1) (@pa_nil _) star_name) (by decide) (by decide) (by rfl) (by rfl)) (@pe_konI _ _ _ _ T.k_MOST_FIGURES (by rfl) (by decide)) (nomark _)) (@pw_or1 _ _ _ _ (@pt_not _ _ _ _ (@pt_val _ _ _ (@pe_callB _ _ _ _ _ _ _ _ _ (call_all rfl) (by rfl) T.b_all PyProof.Rows.boot_all (@pa_cons _ _ _ _ _ (@pe_lcomp _ _ _ _ _ [] _ ["sign"] _ (fun _ => [none]) _ _ rfl (@pi_str _ _ _ _ (pv 1)) (fun _ _ _ _ => pg_name (i := 0) (List.nodup_cons.mpr ⟨fun h => (nomatch h), List.nodup_nil⟩) rfl (Or.inl rfl) (.inr rfl)) (fun _ _ _ _ => (@pe_cmpR _ _ _ _ _ _ _ _ op_in_str (pv 0) (@pe_konS _ _ _ _ T.k_FIGURES (by rfl) (by decide)) rfl)) (closureFor_none (by decide +kernel)) rfl (by decide +kernel) (by decide +kernel) (fun _ _ h => by cases h) (noCells (by rfl)) (fun _ _ => rfl) (fun _ i _ _ _ h => by cases i with | zero => cases h | succ i => simp at h) (by intro _; rfl)) (@pa_nil _) star_lc) (by decide) (by decide) (by rfl) (by rfl)) (by intro _; rfl))))))) (@pss_one _ _ _ (@ps_raise0 _ _ _ _ _ _ _ _ _ _ _ _ _ _ _ _ _ _ _ _ T.e_NoText T.m_NoText rfl (by decide))) (@pss_nil _)) (@pss_cons _ _ _ _ _ (@ps_if _ _ _ _ _ _ _ _ (PW.pt (@pw_and _ _ _ _ _ _ _ (@pt_val _ _ _ (@pe_bm _ _ _ _ _ _ _ _ _ _ _ _ PySem.F.plainAttrs_str PySem.F.slot_str_startswith PySem.F.type_str_startswith mt_starts (pv 1) (@pa_cons _ _ _ _ _ (@pe_str _ _ _ _) (@pa_nil _) star_con) (by rfl) (by rfl) (by rfl) (by rfl) (by rfl)) (by intro _; rfl)) (@pw_and1 _ _ _ _ (@pt_cmpR _ _ _ _ _ _ _ _ op_ne (pv 0) (@pe_str _ _ _ _) (nomark _))))) (@pss_one _ _ _ (@ps_raise0 _ _ _ _ _ _ _ _ _ _ _ _ _ _ _ _ _ _ _ _ T.e_NoText T.m_NoText rfl (by decide))) (@pss_nil _)) (@pss_one _ _ _ (@ps_ret _ _ _ _ (@pe_callTy _ _ _ _ _ _ _ _ _ call_intS (by rfl) T.b_int PyProof.Rows.boot_int (@pa_cons _ _ _ _ _ (pv 0) (@pa_nil _) star_name) (by decide) (by decide) (by rfl) (by rfl)))))))), ?_⟩
    have f9 := fig_most bn
    have t9 := tx_len4 bn
    have big : 1000 ≤ sizeLine := by decide
    refine st_exprG (R := fun v H' => H = H') (gv_call (pa_c (pu_v rfl) pa_n) fun Q f => ⟨_, rfl, f _ _ rfl⟩) ?_
    rintro _ _ rfl
    refine st_set (v := .str (fig n)) (pu_ifE (b := decide (n < 0)) ?_ (fun e => ?_) fun e => ?_) ?_
    · have := pu_starts (K := K) (to := tVar 0) (tb := tC (.str (Str.ofString "-"))) (σ := [some (.str (tx n)), none]) (H := H) (pu_v rfl) pu_c
      rw [s_minus, starts_one, tx_starts] at this
      rw [← s_minus] at this
      exact pt_b this
    · have hlt : n < 0 := of_decide_eq_true e
      have e1 : fig n = ⟨((tx n).cps.toList.drop 1).toArray⟩ := by
        rw [tx_neg' hlt]
        rfl
      rw [e1]
      refine pu_cut1 (tn := tNoPart) (pu_v rfl) ?_ (by omega)
      rw [← L2.len_list, tx_neg' hlt]
      exact Nat.succ_le_succ (Nat.zero_le _)
    · have hge : 0 ≤ n := by
        have := of_decide_eq_false e
        omega
      rw [← tx_fig hge]
      exact pu_v rfl
    have LE : ∀ {σ : L2.St} {H' : Hp}, σ[1]? = some (some (.str (fig n))) → Pu (tCB (fun xs H Q => ∃ z, xs = [.str z] ∧ z.length ≤ sizeLine ∧ Q (.int z.length) H) (tCons (tVar 1) tNil)) σ H' (.int ((fig n).length : Nat)) := fun h => pu_lenS (pa_c (pu_v h) pa_n) (by omega)
    by_cases hn : n.natAbs < 10 ^ 60
    case neg =>
      have hl := fig_long (Nat.le_of_not_lt hn)
      refine st_ifNG (R := fun b H' => b = true ∧ H = H') (gt_or (R := fun b H' => b = false ∧ H = H') (PuT.gt (pt_t (pu_lt (LE rfl) pu_c)) ⟨by rw [decide_eq_false_iff_not]; omega, rfl⟩) (fun H' e => ?_) (fun _ e => by cases e.1)) ?_ (fun _ e => by cases e.1)
      · obtain ⟨_, rfl⟩ := e
        refine gt_or (R := fun b H' => b = true ∧ H = H') (PuT.gt (pt_t (pu_gt (LE rfl) pu_c)) ⟨by rw [decide_eq_true_iff]; omega, rfl⟩) (fun H' e => by cases e.1) (fun _ e => e)
      · rintro H' ⟨_, rfl⟩
        exact kx (Nat.le_of_not_lt hn)
    obtain ⟨f1, f2⟩ := fig_len hn
    obtain ⟨rd, l61⟩ := tx_reads n hn
    replace k := k hn
    refine st_ifNG (R := fun b H' => b = false ∧ Same H H') (gt_or (R := fun b H' => b = false ∧ H = H') (PuT.gt (pt_t (pu_lt (LE rfl) pu_c)) ⟨by rw [decide_eq_false_iff_not]; omega, rfl⟩) (fun H' e => ?_) (fun _ e => by cases e.1)) (fun _ e => by cases e.1) ?_
    · obtain ⟨_, rfl⟩ := e
      refine gt_or (R := fun b H' => b = false ∧ H = H') (PuT.gt (pt_t (pu_gt (LE rfl) pu_c)) ⟨by rw [decide_eq_false_iff_not]; omega, rfl⟩) (fun H' e => ?_) (fun _ e => by cases e.1)
      obtain ⟨_, rfl⟩ := e
      have hall : ((fig n).cps.toList.map fun c => decide (c ∈ (Str.ofString "0123456789").cps.toList)).all id = true := by
        rw [List.all_eq_true]
        intro b hb
        obtain ⟨c, hc, rfl⟩ := List.mem_map.mp hb
        simpa using fig_digit n c hc
      refine gt_nt ((gv_all ((fig n).cps.toList.map fun c => decide (c ∈ (Str.ofString "0123456789").cps.toList)) (gv_compS (fr := fun _ => [none]) (k := 0) (fun c => .bl (decide (c ∈ (Str.ofString "0123456789").cps.toList))) (pu_v rfl) (fig_ascii n) (by omega) (fun _ => KeepS.none1) fun c hc H' s => pu_inS (pu_v rfl) pu_c) ?_).imp ?_)
      · rintro v H' ⟨D, hD, rfl, rfl⟩
        exact ⟨D, rfl, SqL.of (by rw [upd_same, List.map_map]; rfl)⟩
      · rintro v H' ⟨⟨p, D, hD, e1, rfl⟩, rfl⟩
        rw [hall]
        exact ⟨rfl, Same.upd hD⟩
    rintro H1 ⟨_, s1⟩
    refine st_ifN (b := false) (fun Q q => ?_) (fun e => by cases e) fun _ => ?_
    · refine pt_and (b := decide ((fig n).cps.toList[0]? = some 48)) (c := !decide (tx n = Str.ofString "0")) ?_ (fun e => pt_t (pu_neStr (pu_v rfl) pu_c)) _ ?_
      · have := pu_starts (K := K) (to := tVar 1) (tb := tC (.str (Str.ofString "0"))) (σ := [some (.str (tx n)), some (.str (fig n))]) (H := H1) (pu_v rfl) pu_c
        rw [s_zero, starts_one] at this
        rw [← s_zero] at this
        exact pt_b this
      · have : (decide ((fig n).cps.toList[0]? = some 48) && !decide (tx n = Str.ofString "0")) = false := by
          by_cases z : (fig n).cps.toList[0]? = some 48
          · rw [decide_eq_true (fig_zero z)]
            simp
          · rw [decide_eq_false z]
            rfl
        rw [this]
        exact q
    exact st_ret (fun Q q => (pa_c (pu_v rfl) pa_n : PuA (tCons (tVar 0) tNil) _ _ [.str (tx n)]) _ ⟨tx n, n, rfl, rd, by omega, q⟩) (k _ s1)
def sp_read_name : Sp := fun vs H Q _ => ∃ x, vs = [.str x] ∧ nameOk x = true ∧ ∀ H', Same H H' → Q (.str x) H'
theorem sc_read_name : FnScope ["text"] ["text"] (defScope s_read_name) := ⟨rfl, rfl, rfl, by decide +kernel, rfl, by decide +kernel, by decide +kernel⟩
theorem ok_read_name (T : Txt K mg t w) : FnOk P w K mg base CX0 2 t.f_read_name t.d_read_name ["text"] sp_read_name := by
  refine T.read_name.F.ok (k := 1) sc_read_name (fun vs H Q E h => ?_) (fun cdv A outer s H vs Q E hr h => ?_)
  · obtain ⟨x, rfl, _⟩ := h
    rfl
  · obtain ⟨x, rfl, hx, k⟩ := h
    refine ⟨_, (@pss_cons _ _ _ _ _ (@ps_if _ _ _ _ _ _ _ _ (@pt_not _ _ _ _ (@pt_val _ _ _ (@pe_fn _ _ _ _ _ _ _ _ _ _ _ _ _ _ T.is_name (ok_is_name T) hr (by decide) (@pa_cons _ _ _ _ _ (pv 0) (@pa_nil _) star_name) (by rfl) (by decide) (by rfl) (by rfl)) (by intro _; rfl))) (@pss_one _ _ _ (@ps_never _ _)) (@pss_nil _)) (@pss_one _ _ _ (@ps_ret _ _ _ _ (pv 0)))), ?_⟩
    have e1 : isNm (.str x) = true := hx
    refine st_ifNG (gt_nt (R := fun H' => Same H H') (gv_call (pa_c (pu_v rfl) pa_n) fun Q q => ⟨0, .str x, .str x, rfl, .str x ⟨name_ascii hx, Nat.le_trans (name_len hx).2 (by decide)⟩, fun H' s => by rw [e1]; exact q _ _ ⟨rfl, s⟩⟩)) (fun _ e => by cases e.1) fun H1 e => ?_
    exact st_ret (pu_v rfl) (k _ e.2)
def small (k : Int) : Prop := k.natAbs < 10 ^ 60
def rdP (n : Nat) (p : Pa) : Prop := p.deep ≤ n ∧ p.nums small
def rd (n : Nat) (u : Wi) : Prop := u.deep ≤ n ∧ u.nums small
theorem rd_iff (n : Nat) (u : Wi) : rd (n + 1) u ↔ ∀ p ∈ u.parts, rdP n p := by
  unfold rd rdP
  rw [u.deep_iff, u.nums_iff]
  exact ⟨fun h p hp => ⟨h.1 p hp, h.2 p hp⟩, fun h => ⟨fun p hp => (h p hp).1, fun p hp => (h p hp).2⟩⟩
def spx_wish_from (n : Nat) (t : Adr) : Sp := fun vs H Q E => ∃ (l : Addr) (u : Wi) (rest : List Str), vs = [.ref l, .int (n : Int)] ∧ H l = some (.lst ((u.words ++ rest).map V.str)) ∧ (u.words ++ rest).length ≤ 100000 ∧ u.names ∧ u.nums (Bd 700) ∧
  (rd n u → ∀ a v r H', Same H H' → H' a = some (.tup [v, .ref r]) → (∀ hd, DAt hd H' v u.d) → H' r = some (.lst (rest.map V.str)) → H r = none → Q (.ref a) H') ∧ (¬ rd n u → ∀ H', Same H H' → E (.ref t.c_NoText) none H')
def spx_part_from (n : Nat) (t : Adr) : Sp := fun vs H Q E => ∃ (l : Addr) (p : Pa) (rest : List Str), vs = [.str (kdS p.kd), .ref l, .int (n : Int)] ∧ H l = some (.lst ((p.words ++ rest).map V.str)) ∧ (p.words ++ rest).length ≤ 100000 ∧ p.names ∧ p.nums (Bd 700) ∧
  (rdP n p → ∀ a v r H', Same H H' → H' a = some (.tup [v, .ref r]) → (∀ hd, DAt hd H' v p.d) → H' r = some (.lst (rest.map V.str)) → H r = none → Q (.ref a) H') ∧ (¬ rdP n p → ∀ H', Same H H' → E (.ref t.c_NoText) none H')
theorem sc_wish_from : FnScope ["words", "depth", "shape", "parts", "rest", "kind", "found"] ["words", "depth"] (defScope s_wish_from) := ⟨rfl, rfl, rfl, by decide +kernel, rfl, by decide +kernel, by decide +kernel⟩
theorem sc_part_from : FnScope ["kind", "words", "depth", "part"] ["kind", "words", "depth"] (defScope s_part_from) := ⟨rfl, rfl, rfl, by decide +kernel, rfl, by decide +kernel, by decide +kernel⟩
theorem okB_from (T : Txt K mg t w) {n k : Nat} (GW : FnOk P w K mg base (CXE P w) k t.f_wish_from t.d_wish_from ["words", "depth"] (spx_wish_from n t)) (hk : 5 ≤ k) : FnOk P w K mg base (CXE P w) (k + 1) t.f_part_from t.d_part_from ["kind", "words", "depth"] (spx_part_from n t) := by
  have okx_wish_from := fun (_ : Txt K mg t w) => GW
  refine T.part_from.F.okE (k := k) sc_part_from (fun vs H Q E h => ?_) (fun cdv A outer s H vs Q E hr h => ?_)
  · obtain ⟨l, p, rest, rfl, _⟩ := h
    rfl
  · obtain ⟨l, p, rest, rfl, hl, hz, nn, nk, k1, k2⟩ := h
    refine ⟨_, (@pss_cons _ _ _ _ _ (@ps_if _ _ _ _ _ _ _ _ (@pt_cmpR _ _ _ _ _ _ _ _ op_eq (pv 0) (@pe_str _ _ _ _) (nomark _)) (@pss_one _ _ _ (@ps_ret _ _ _ _ (@pe_fnX _ _ _ _ _ _ _ _ _ _ _ _ _ _ _ _ _ T.wish_from (okx_wish_from T) hr (by omega) passX (@pa_cons _ _ _ _ _ (pv 1) (@pa_cons _ _ _ _ _ (pv 2) (@pa_nil _) star_name) star_name) (by rfl) (by decide) (by rfl) (by rfl)))) (@pss_nil _)) (@pss_cons _ _ _ _ _ (@ps_if _ _ _ _ _ _ _ _ (@pt_cmpR _ _ _ _ _ _ _ _ op_eq (@pe_callB _ _ _ _ _ _ _ _ _ call_len_seq (by rfl) T.b_len PySem.boot_len (@pa_cons _ _ _ _ _ (pv 1) (@pa_nil _) star_name) (by decide) (by decide) (by rfl) (by rfl)) (@pe_int _ _ _ _) (nomark _)) (@pss_one _ _ _ (@ps_raise0 _ _ _ _ _ _ _ _ _ _ _ _ _ _ _ _ _ _ _ _ T.e_NoText T.m_NoText rfl (by decide))) (@pss_nil _)) (@pss_cons _ _ _ _ _ (@ps_set _ _ 3 _ _ _ _ sc_part_from.nd rfl (Or.inl rfl) (@pe_ifExp _ _ _ _ _ _ _ _ (@pt_cmpR _ _ _ _ _ _ _ _ op_eq (pv 0) (@pe_str _ _ _ _) (nomark _)) (@pe_fn _ _ _ _ _ _ _ _ _ _ _ _ _ _ T.read_name (ok_read_name T) hr (by omega) (@pa_cons _ _ _ _ _ (@pe_ix _ _ _ _ _ _ _ ix_list (pv 1) (@pe_int _ _ _ _) (fun _ _ => rfl)) (@pa_nil _) star_sub) (by rfl) (by decide) (by rfl) (by rfl)) (@pe_fnX _ _ _ _ _ _ _ _ _ _ _ _ _ _ _ _ _ T.read_whole (okx_read_whole T) hr (by omega) passX (@pa_cons _ _ _ _ _ (@pe_ix _ _ _ _ _ _ _ ix_list (pv 1) (@pe_int _ _ _ _) (fun _ _ => rfl)) (@pa_nil _) star_sub) (by rfl) (by decide) (by rfl) (by rfl))) (by rfl) (by first | exact .inl rfl | exact .inr rfl | assumption)) (@pss_one _ _ _ (@ps_ret _ _ _ _ (@pe_tup _ _ _ _ _ (@pa_cons _ _ _ _ _ (pv 3) (@pa_cons _ _ _ _ _ (@pe_slice _ _ _ _ _ _ _ _ _ _ sl_list (pv 1) (@po_some _ _ _ (@pe_int _ _ _ _)) (@po_none _)) (@pa_nil _) star_sub) star_name))))))), ?_⟩
    have big : 100000 ≤ sizeLine := by decide
    -- what lies behind the first word
    have fin : ∀ {x : Str} {v : V} {H1 : Hp} {σ : L2.St} {Q' : VK}, (p.words ++ rest) = x :: rest → Same H H1 → (∀ hd, DAt hd H1 v p.d) → σ[3]? = some (some v) → σ[1]? = some (some (.ref l)) → (∀ a v r H', Same H H' → H' a = some (.tup [v, .ref r]) → (∀ hd, DAt hd H' v p.d) → H' r = some (.lst (rest.map V.str)) → H r = none → Q' (.ref a) H') → tTup (tCons (tVar 3) (tCons (tSl (rSlL K) (tVar 1) (tPart (tC (.int 1))) tNoPart) tNil)) σ H1 Q' := fun {x v H1 σ Q'} e s1 hv h3 h1 kk => by
      have hl1 := s1 _ _ hl
      rw [e] at hl1
      refine gv_tupA (R := fun w H' => Q' w H') (RA := fun vs H2 => ∃ r, H1 r = none ∧ vs = [v, .ref r] ∧ H2 = upd H1 r (.lst (((x :: rest).map V.str).drop 1))) (fun Q2 q2 => pu_v h3 _ (gv_from (k := 1) (pu_v h1) pu_c (SqL.of hl1) (by simp) _ fun w H2 z => ?_)) ?_ Q' fun _ _ z => z
      · obtain ⟨r, hr', rfl, rfl⟩ := z
        exact q2 _ _ ⟨r, hr', rfl, rfl⟩
      · rintro _ _ ⟨r, hr', rfl, rfl⟩
        have s2 : Same H1 (upd H1 r (.lst (((x :: rest).map V.str).drop 1))) := Same.upd hr'
        refine ⟨len2, fun a ha => kk a v r _ (s1.trans (s2.trans (Same.upd ha))) upd_same (fun hd => (hv hd).same (s2.trans (Same.upd ha))) ?_ (same_none s1 hr')⟩
        rw [upd_ne (ne_of_none upd_same ha), upd_same]
        rfl
    have L0 : ∀ {x : Str} {H1 : Hp} {σ : L2.St}, (p.words ++ rest) = x :: rest → Same H H1 → σ[1]? = some (some (.ref l)) → Pu (tOp (rIxL K) (tVar 1) (tC (.int 0))) σ H1 (.str x) := fun {x H1 σ} e s1 h1 => by
      have hl1 := s1 _ _ hl
      rw [e] at hl1
      exact pu_ixL (pu_v h1) pu_c (SqL.of hl1) at0
    have LN : ∀ {H1 : Hp} {σ : L2.St}, H1 l = some (.lst ((p.words ++ rest).map V.str)) → σ[1]? = some (some (.ref l)) → PuT (tTest (tOp rEq (tCB (fun xs H Q => ∃ p ys, xs = [.ref p] ∧ (SqL K H p ys ∨ SqT K H p ys) ∧ Q (.int ys.length) H) (tCons (tVar 1) tNil)) (tC (.int 0)))) σ H1 false := fun {H1 σ} hl1 h1 => pt_t (pu_cast (pu_eqI (pu_lenL (pa_c (pu_v h1) pa_n) (SqL.of hl1)) pu_c) (by
      have := p.words_ne
      rw [decide_eq_false]
      intro z
      have z' : (p.words ++ rest).map V.str = [] := List.eq_nil_of_length_eq_zero (by exact_mod_cast z)
      simp [this] at z'))
    cases p with
    | ws u =>
      refine st_ifN (pt_t (pu_eqStr (pu_v rfl) pu_c)) (fun _ => ?_) (fun e => absurd e (by show ¬ decide (kdS .wish = _) = false; decide +kernel))
      by_cases hr' : rd n u
      · exact st_retG (R := fun w H' => ∃ a v r, w = .ref a ∧ Same H H' ∧ H' a = some (.tup [v, .ref r]) ∧ (∀ hd, DAt hd H' v u.d) ∧ H' r = some (.lst (rest.map V.str)) ∧ H r = none) (gv_call (sp := spx_wish_from n t) (pa_c (pu_v rfl) (pa_c (pu_v rfl) pa_n)) fun Q q => ⟨l, u, rest, rfl, hl, hz, nn, nk, fun _ a v r H' s h1 h2 h3 h4 => q _ _ ⟨a, v, r, rfl, s, h1, h2, h3, h4⟩, fun z => absurd hr' z⟩) fun w H' z => by
          obtain ⟨a, v, r, rfl, s, h1, h2, h3, h4⟩ := z
          exact k1 hr' a v r H' s h1 h2 h3 h4
      · exact st_retG (R := fun _ _ => False) (gv_call (sp := spx_wish_from n t) (pa_c (pu_v rfl) (pa_c (pu_v rfl) pa_n)) fun Q q => ⟨l, u, rest, rfl, hl, hz, nn, nk, fun z => absurd z hr', fun _ => k2 hr'⟩) fun _ _ z => z.elim
    | nm x =>
      have nx : nameOk x = true := nn
      refine st_ifN (pt_t (pu_eqStr (pu_v rfl) pu_c)) (fun e => absurd e (by show ¬ decide (kdS .name = _) = true; decide +kernel)) (fun _ => ?_)
      refine st_ifN (LN hl rfl) (fun e => by cases e) (fun _ => ?_)
      refine st_setG (R := fun v H' => v = .str x ∧ Same H H') (gv_if (pt_t (pu_eqStr (pu_v rfl) pu_c)) (fun _ => gv_call (pa_c (L0 rfl Same.rfl' rfl) pa_n) fun Q q => ⟨x, rfl, nx, fun H' s => q _ _ ⟨rfl, s⟩⟩) (fun e => absurd e (by show ¬ decide (kdS .name = _) = false; decide +kernel))) ?_
      rintro _ H1 ⟨rfl, s1⟩
      exact st_retG (R := fun w H' => Q w H') (fun Q' q => fin rfl s1 (fun hd => .str x ⟨name_ascii nx, Nat.le_trans (name_len nx).2 (by decide)⟩) rfl rfl fun a v r H' h1 h2 h3 h4 h5 => q _ _ (k1 ⟨Nat.zero_le _, trivial⟩ a v r H' h1 h2 h3 h4 h5)) fun _ _ z => z
    | nb z =>
      refine st_ifN (pt_t (pu_eqStr (pu_v rfl) pu_c)) (fun e => absurd e (by show ¬ decide (kdS .number = _) = true; decide +kernel)) (fun _ => ?_)
      refine st_ifN (LN hl rfl) (fun e => by cases e) (fun _ => ?_)
      by_cases hz' : z.natAbs < 10 ^ 60
      · refine st_setG (R := fun v H' => v = .int z ∧ Same H H') (gv_if (pt_t (pu_eqStr (pu_v rfl) pu_c)) (fun e => absurd e (by show ¬ decide (kdS .number = _) = true; decide +kernel)) (fun _ => gv_call (sp := spx_read_whole t) (pa_c (L0 rfl Same.rfl' rfl) pa_n) fun Q q => ⟨z, rfl, nk, fun _ H' s => q _ _ ⟨rfl, s⟩, fun h => absurd hz' (Nat.not_lt.mpr h)⟩)) ?_
        rintro _ H1 ⟨rfl, s1⟩
        exact st_retG (R := fun w H' => Q w H') (fun Q' q => fin rfl s1 (fun hd => .int z) rfl rfl fun a v r H' h1 h2 h3 h4 h5 => q _ _ (k1 ⟨Nat.zero_le _, hz'⟩ a v r H' h1 h2 h3 h4 h5)) fun _ _ z => z
      · exact st_setG (R := fun _ _ => False) (gv_if (pt_t (pu_eqStr (pu_v rfl) pu_c)) (fun e => absurd e (by show ¬ decide (kdS .number = _) = true; decide +kernel)) (fun _ => gv_call (sp := spx_read_whole t) (pa_c (L0 rfl Same.rfl' rfl) pa_n) fun Q q => ⟨z, rfl, nk, fun h => absurd h hz', fun _ => k2 (fun h => hz' h.2) _ Same.rfl'⟩)) fun _ _ z => z.elim
/-- what is left of the words -/
def left (ps : List Pa) (rest : List Str) : List Str := (ps.map Pa.words).flatten ++ rest
theorem left_le (rest : List Str) : ∀ (ps : List Pa) (i : Nat), (left (ps.drop i) rest).length ≤ (left ps rest).length
  | [], i => by simp
  | p :: ps, 0 => Nat.le_refl _
  | p :: ps, i + 1 => by
    have := left_le rest ps i
    simp only [left, List.drop_succ_cons, List.map_cons, List.flatten_cons, List.length_append] at this ⊢
    omega
theorem DsAt.snoc {hd : Addr} {H : Hp} : ∀ {vs : List V} {ds : List D} {v : V} {d : D}, DsAt hd H vs ds → DAt hd H v d → DsAt hd H (vs ++ [v]) (ds ++ [d])
  | _, _, _, _, .nil, h => .cons h .nil
  | _, _, _, _, .cons a t, h => .cons a (DsAt.snoc t h)
theorem okA_from (T : Txt K mg t w) {n k : Nat} {spP : Sp} (GP : FnOk P w K mg base (CXE P w) k t.f_part_from t.d_part_from ["kind", "words", "depth"] spP) (hk : 5 ≤ k) (hsp : ∀ m, n = m + 1 → spP = spx_part_from m t) : FnOk P w K mg base (CXE P w) (k + 1) t.f_wish_from t.d_wish_from ["words", "depth"] (spx_wish_from n t) := by
  have okx_part_from := fun (_ : Txt K mg t w) => GP
  refine T.wish_from.F.okE (k := k) sc_wish_from (fun vs H Q E h => ?_) (fun cdv A outer s H vs Q E hr h => ?_)
  · obtain ⟨l, p, rest, rfl, _⟩ := h
    rfl
  · obtain ⟨l, u, rest, rfl, hl, hz, nn, nk, k1, k2⟩ := h
    refine ⟨_, (@pss_cons _ _ _ _ _ (@ps_set _ _ 2 _ _ _ _ sc_wish_from.nd rfl (Or.inl rfl) (@pe_ifExp _ _ _ _ _ _ _ _ (PW.pt (@pw_and _ _ _ _ _ _ _ (@pt_cmpR _ _ _ _ _ _ _ _ op_gt (@pe_callB _ _ _ _ _ _ _ _ _ call_len_seq (by rfl) T.b_len PySem.boot_len (@pa_cons _ _ _ _ _ (pv 0) (@pa_nil _) star_name) (by decide) (by decide) (by rfl) (by rfl)) (@pe_int _ _ _ _) (nomark _)) (@pw_and1 _ _ _ _ (@pt_cmpR _ _ _ _ _ _ _ _ op_gt (pv 1) (@pe_int _ _ _ _) (nomark _))))) (@pe_fn _ _ _ _ _ _ _ _ _ _ _ _ _ _ T.shape_of (ok_shape_of T) hr (by omega) (@pa_cons _ _ _ _ _ (@pe_ix _ _ _ _ _ _ _ ix_list (pv 0) (@pe_int _ _ _ _) (fun _ _ => rfl)) (@pa_nil _) star_sub) (by rfl) (by decide) (by rfl) (by rfl)) (@pe_non _ _ _)) (by rfl) (by first | exact .inl rfl | exact .inr rfl | assumption)) (@pss_cons _ _ _ _ _ (@ps_if _ _ _ _ _ _ _ _ (@pt_cmpR _ _ _ _ _ _ _ _ op_isN (pv 2) (@pe_non _ _ _) (nomark _)) (@pss_one _ _ _ (@ps_raise0 _ _ _ _ _ _ _ _ _ _ _ _ _ _ _ _ _ _ _ _ T.e_NoText T.m_NoText rfl (by decide))) (@pss_nil _)) (@pss_cons _ _ _ _ _ (@ps_set _ _ 3 _ _ _ _ sc_wish_from.nd rfl (Or.inl rfl) (@pe_lst _ _ _ _ (@pa_cons _ _ _ _ _ (@pe_ix _ _ _ _ _ _ _ ix_list (pv 0) (@pe_int _ _ _ _) (fun _ _ => rfl)) (@pa_nil _) star_sub)) (by rfl) (by first | exact .inl rfl | exact .inr rfl | assumption)) (@pss_cons _ _ _ _ _ (@ps_set _ _ 4 _ _ _ _ sc_wish_from.nd rfl (Or.inl rfl) (@pe_slice _ _ _ _ _ _ _ _ _ _ sl_list (pv 0) (@po_some _ _ _ (@pe_int _ _ _ _)) (@po_none _)) (by rfl) (by first | exact .inl rfl | exact .inr rfl | assumption)) (@pss_cons _ _ _ _ _ (@ps_forX _ _ _ _ _ _ _ _ _ _ _ _ _ _ _ _ rfl _ _ _ _ _ _ _ rfl (@pi_tup _ _ _ _ (pv 2)) (@pg_name _ _ 5 _ sc_wish_from.nd rfl (Or.inl rfl) (by first | exact .inl rfl | exact .inr rfl | assumption)) (@pss_cons _ _ _ _ _ (@ps_set _ _ 6 _ _ _ _ sc_wish_from.nd rfl (Or.inl rfl) (@pe_fnX _ _ _ _ _ _ _ _ _ _ _ _ _ _ _ _ _ T.part_from (okx_part_from T) hr (by omega) passO (@pa_cons _ _ _ _ _ (pv 5) (@pa_cons _ _ _ _ _ (pv 4) (@pa_cons _ _ _ _ _ (@pe_op _ _ _ _ _ _ _ _ op_sub (pv 1) (@pe_int _ _ _ _)) (@pa_nil _) star_bin) star_name) star_name) (by rfl) (by decide) (by rfl) (by rfl)) (by rfl) (by first | exact .inl rfl | exact .inr rfl | assumption)) (@pss_cons _ _ _ _ _ (@ps_expr _ _ _ _ (@pe_bm _ _ _ _ _ _ _ _ _ _ _ _ PySem.F.plainAttrs_list PySem.F.slot_list_append PySem.F.type_list_append mt_append (pv 3) (@pa_cons _ _ _ _ _ (@pe_ix _ _ _ _ _ _ _ ix_tup (pv 6) (@pe_int _ _ _ _) (fun _ _ => rfl)) (@pa_nil _) star_sub) (by rfl) (by rfl) (by rfl) (by rfl) (by rfl)) (by rfl)) (@pss_one _ _ _ (@ps_set _ _ 4 _ _ _ _ sc_wish_from.nd rfl (Or.inl rfl) (@pe_ix _ _ _ _ _ _ _ ix_tup (pv 6) (@pe_int _ _ _ _) (fun _ _ => rfl)) (by rfl) (by first | exact .inl rfl | exact .inr rfl | assumption))))) (by intro _; rfl)) (@pss_one _ _ _ (@ps_ret _ _ _ _ (@pe_tup _ _ _ _ _ (@pa_cons _ _ _ _ _ (@pe_callTy _ _ _ _ _ _ _ _ _ call_tuple_of (by rfl) T.b_tuple PyProof.Rows.boot_tuple (@pa_cons _ _ _ _ _ (pv 3) (@pa_nil _) star_name) (by decide) (by decide) (by rfl) (by rfl)) (@pa_cons _ _ _ _ _ (pv 4) (@pa_nil _) star_name) star_call))))))))), ?_⟩
    have big : 100000 ≤ sizeLine := by decide
    have LG : ∀ {σ : L2.St}, σ[0]? = some (some (.ref l)) → Pu (tOp (rI0 fun i j => .bl (decide (i > j))) (tCB (fun xs H Q => ∃ p ys, xs = [.ref p] ∧ (SqL K H p ys ∨ SqT K H p ys) ∧ Q (.int ys.length) H) (tCons (tVar 0) tNil)) (tC (.int 0))) σ H (.bl true) := fun {σ} h0 => pu_cast (pu_gt (pu_lenL (pa_c (pu_v h0) pa_n) (SqL.of hl)) pu_c) (by
      have := u.words_ne
      rw [decide_eq_true]
      have : 0 < (u.words ++ rest).length := List.length_pos_iff.mpr (by simp [this])
      rw [List.length_map]
      omega)
    cases n with
    | zero =>
      refine st_set (v := .non) (pu_ifE (b := false) (pt_and (b := true) (c := false) (pt_t (LG rfl)) fun _ => pt_t (pu_cast (pu_gt (pu_v rfl) pu_c) (by simp))) (fun e => by cases e) fun _ => pu_c) ?_
      refine st_ifN (b := true) (pt_t (pu_cast (pu_isN (pu_v rfl) pu_c) (by simp))) (fun _ => ?_) (fun e => by cases e)
      exact k2 (fun z => by have := u.deep_pos; have := z.1; omega) _ Same.rfl'
    | succ n =>
    have e := hsp n rfl
    subst e
    have wl : (u.words ++ rest).map V.str = V.str u.word :: (left u.parts rest).map V.str := by
      rw [u.words_eq]
      rfl
    have hl0 := hl
    rw [wl] at hl0
    refine st_setG (R := fun v H' => H = H' ∧ ∃ a0, v = .ref a0 ∧ ∀ H', SqT K H' a0 ((u.parts.map Pa.kd).map fun k => V.str (kdS k))) (gv_if (b := true) (pt_and (b := true) (c := true) (pt_t (LG rfl)) fun _ => pt_t (pu_cast (pu_gt (pu_v rfl) pu_c) (by rw [decide_eq_true]; omega))) (fun _ => gv_call (pa_c (pu_ixL (pu_v rfl) pu_c (SqL.of hl0) at0) pa_n) fun Q q => ⟨u.word, rfl, (fun e => by rw [u.shp_eq] at e; cases e), fun ks' a e sq => by rw [u.shp_eq] at e; cases e; exact q _ _ ⟨rfl, a, rfl, sq⟩⟩) (fun e => by cases e)) ?_
    rintro _ _ ⟨rfl, a0, rfl, sq⟩
    refine st_ifN (b := false) (pt_t (pu_cast (pu_isN (pu_v rfl) pu_c) (by simp))) (fun e => by cases e) (fun _ => ?_)
    refine st_setG (gv_lst (pa_c (pu_ixL (pu_v rfl) pu_c (SqL.of hl0) at0) pa_n) (by show 1 ≤ sizeLine; decide)) ?_
    rintro _ _ ⟨lp, hlp, rfl, rfl⟩
    have s1 : Same H (upd H lp (.lst [.str u.word])) := Same.upd hlp
    refine st_setG (gv_from (k := 1) (pu_v rfl) pu_c (SqL.of (s1 _ _ hl0)) (by simp)) ?_
    rintro _ _ ⟨r0, hr0, rfl, rfl⟩
    have s2 := s1.trans (Same.upd (o := .lst ((V.str u.word :: (left u.parts rest).map V.str).drop 1)) hr0)
    have nlr : lp ≠ r0 := ne_of_none upd_same hr0
    have p1 : (upd (upd H lp (.lst [.str u.word])) r0 (.lst ((V.str u.word :: (left u.parts rest).map V.str).drop 1))) lp = some (.lst [.str u.word]) := by rw [upd_ne nlr, upd_same]
    have p2 : (upd (upd H lp (.lst [.str u.word])) r0 (.lst ((V.str u.word :: (left u.parts rest).map V.str).drop 1))) r0 = some (.lst ((left u.parts rest).map V.str)) := upd_same
    revert s2 p1 p2
    generalize upd (upd H lp (.lst [.str u.word])) r0 (.lst ((V.str u.word :: (left u.parts rest).map V.str).drop 1)) = H1
    intro s2 p1 p2
    have n1 := u.names_iff.mp nn
    have m1 := (u.nums_iff _).mp nk
    have pl := u.parts_le
    refine st_tupl (K := K) (xs := (u.parts.map Pa.kd).map fun k => V.str (kdS k)) (pu_v rfl) (fun i σ H' => Same H H' ∧ (∀ p ∈ u.parts.take i, rdP n p) ∧ (∃ xs, H' lp = some (.lst (.str u.word :: xs)) ∧ ∀ hd, DsAt hd H' xs ((u.parts.take i).map Pa.d)) ∧ ∃ (r : Addr) (x y : Option V), r ≠ lp ∧ H r = none ∧ H' r = some (.lst ((left (u.parts.drop i) rest).map V.str)) ∧ σ = [some (.ref l), some (.int ((n + 1 : Nat) : Int)), some (.ref a0), some (.ref lp), some (.ref r), x, y]) ⟨s2, fun p hp => (nomatch hp), ⟨[], p1, fun hd => .nil⟩, r0, none, none, nlr.symm, same_none s1 hr0, p2, rfl⟩ (fun i σ H' _ _ => sq H') ?_ ?_
    · rintro i x σ H2 hx ⟨s2', rdi, ⟨xs, hlp2, tds⟩, r, x', y', nr, frr, hr2, rfl⟩
      rw [List.getElem?_map, List.getElem?_map] at hx
      cases hpi : u.parts[i]? with
      | none => rw [hpi] at hx; cases hx
      | some p =>
        rw [hpi] at hx
        have e1 : V.str (kdS p.kd) = x := Option.some.inj hx
        subst e1
        have hm := List.mem_of_getElem? hpi
        have hi : i < u.parts.length := (List.getElem?_eq_some_iff.mp hpi).1
        have dr : u.parts.drop i = p :: u.parts.drop (i + 1) := by
          rw [List.drop_eq_getElem_cons hi]
          congr 1
          exact (List.getElem?_eq_some_iff.mp hpi).2
        have lf : left (u.parts.drop i) rest = p.words ++ left (u.parts.drop (i + 1)) rest := by
          unfold left
          rw [dr, List.map_cons, List.flatten_cons, List.append_assoc]
        rw [lf] at hr2
        have hz2 : (p.words ++ left (u.parts.drop (i + 1)) rest).length ≤ 100000 := by
          rw [← lf]
          have h0 := left_le rest u.parts i
          have h1 : (u.words ++ rest).length = (left u.parts rest).length + 1 := by
            have := congrArg List.length wl
            simpa using this
          omega
        have AR : ∀ {σ : L2.St}, σ[5]? = some (some (.str (kdS p.kd))) → σ[4]? = some (some (.ref r)) → σ[1]? = some (some (.int ((n + 1 : Nat) : Int))) → PuA (tCons (tVar 5) (tCons (tVar 4) (tCons (tOp (rI0 fun i j => .int (i - j)) (tVar 1) (tC (.int 1))) tNil))) σ H2 [.str (kdS p.kd), .ref r, .int (n : Int)] := fun h5 h4 h1 => pa_c (pu_v h5) (pa_c (pu_v h4) (pa_c (pu_cast (pu_sub (pu_v h1) pu_c) (by congr 1; omega)) pa_n))
        by_cases hrd : rdP n p
        · refine st_setG (R := fun w H' => ∃ a v r', w = .ref a ∧ Same H2 H' ∧ H' a = some (.tup [v, .ref r']) ∧ (∀ hd, DAt hd H' v p.d) ∧ H' r' = some (.lst ((left (u.parts.drop (i + 1)) rest).map V.str)) ∧ H2 r' = none) (gv_call (sp := spx_part_from n t) (AR rfl rfl rfl) fun Q q => ⟨r, p, left (u.parts.drop (i + 1)) rest, rfl, hr2, hz2, n1 p hm, m1 p hm, fun _ a v r' H' s h1 h2 h3 h4 => q _ _ ⟨a, v, r', rfl, s, h1, h2, h3, h4⟩, fun z => absurd hrd z⟩) ?_
          rintro _ H3 ⟨a, v, r', rfl, s3, ha, hv, hr', fr'⟩
          have hlp3 := s3 _ _ hlp2
          refine st_app (pu_v rfl) hlp3 (Pu.gv (v := v) (pu_ixT (pu_v rfl) pu_c (SqT.of ha) rfl)) ?_
          rintro v H3 ⟨rfl, rfl⟩
          have xl : xs.length = i := by
            have := (tds 0).len
            rw [List.length_map, List.length_take] at this
            omega
          refine ⟨_, hlp3, ?_, ?_⟩
          · rw [List.length_cons, xl]
            exact Nat.lt_of_lt_of_le (show i + 1 < 1000 by omega) (by decide)
          have na : a ≠ lp := ne_of ha hlp3 (by intro z; cases z)
          have sb : SameB lp H3 (upd H3 lp (.lst (V.str u.word :: xs ++ [v]))) := SameB.upd
          have nr' : r' ≠ lp := fun z => by rw [z, hlp2] at fr'; cases fr'
          refine st_set1 (pu_ixT (pu_v rfl) pu_c (SqT.of (sb _ _ ha na)) rfl) ?_
          have tk : u.parts.take (i + 1) = u.parts.take i ++ [p] := by rw [List.take_succ, hpi]; rfl
          refine ⟨same_updNew (s2'.trans s3) hlp, fun q hq => ?_, ⟨xs ++ [v], upd_same, fun hd => ?_⟩, r', _, _, nr', same_none s2' fr', ?_, rfl⟩
          · rw [tk] at hq
            rcases List.mem_append.mp hq with hq | hq
            · exact rdi q hq
            · rw [List.mem_singleton.mp hq]
              exact hrd
          · rw [tk, List.map_append]
            exact DsAt.snoc (Pas.but hlp3 sb ((tds 0).same s3) hd) (Pa.but hlp3 sb (hv 0) hd)
          · rw [upd_ne nr']
            exact hr'
        · exact st_setG (R := fun _ _ => False) (gv_call (sp := spx_part_from n t) (AR rfl rfl rfl) fun Q q => ⟨r, p, left (u.parts.drop (i + 1)) rest, rfl, hr2, hz2, n1 p hm, m1 p hm, fun z => absurd z hrd, fun _ H' s => k2 (fun z => hrd ((rd_iff n u).mp z p hm)) H' (s2'.trans s)⟩) fun _ _ z => z.elim
    · rintro σ H2 ⟨s2', rdi, ⟨xs, hlp2, tds⟩, r, x', y', nr, frr, hr2, rfl⟩
      rw [List.length_map, List.length_map] at rdi tds hr2
      rw [List.take_length] at rdi tds
      rw [List.drop_length] at hr2
      have hrd := (rd_iff n u).mpr rdi
      have hr3 : H2 r = some (.lst (rest.map V.str)) := hr2
      refine st_retG (R := fun w H' => Q w H') (gv_tupA (RA := fun vs H' => ∃ p, H2 p = none ∧ vs = [.ref p, .ref r] ∧ H' = upd H2 p (.tup (.str u.word :: xs))) (fun Q2 q2 => gv_cb1 (R' := fun w H' => ∃ p, H2 p = none ∧ w = .ref p ∧ H' = upd H2 p (.tup (.str u.word :: xs))) (Pu.gv (v := .ref lp) (pu_v rfl)) ?_ _ ?_) ?_) fun _ _ z => z
      · intro v3 H4 e Q3 q3
        obtain ⟨e1, e2⟩ := e
        subst e1
        subst e2
        exact ⟨lp, _, rfl, .inl ⟨SqL.of hlp2, fun p hp => q3 _ _ ⟨p, hp, rfl, rfl⟩⟩⟩
      · rintro _ _ ⟨p, hp, rfl, rfl⟩
        exact (pu_v rfl : Pu (tVar 4) _ _ (.ref r)) _ (q2 _ _ ⟨p, hp, rfl, rfl⟩)
      · rintro _ _ ⟨p, hp, rfl, rfl⟩
        refine ⟨len2, fun a ha => ?_⟩
        have s5 : Same H2 (upd (upd H2 p (.tup (.str u.word :: xs))) a (.tup [.ref p, .ref r])) := (Same.upd hp).trans (Same.upd ha)
        refine k1 hrd a (.ref p) r _ (s2'.trans s5) upd_same (fun hd => ?_) (s5 _ _ hr3) frr
        rw [u.d_eq]
        refine .tup (xs := .str u.word :: xs) ?_ (.cons (.str _ ⟨u.word_ascii, Nat.le_trans u.word_le (by decide)⟩) ((tds hd).same s5))
        rw [upd_ne (ne_of_none upd_same ha), upd_same]
theorem okr_from (T : Txt K mg t w) : ∀ n : Nat, FnOk P w K mg base (CXE P w) (8 + 2 * n) t.f_wish_from t.d_wish_from ["words", "depth"] (spx_wish_from n t)
  | 0 => okA_from T (k := 7) (spP := spNo) (T.part_from.F.okE (k := 6) sc_part_from (fun _ _ _ _ h => h.elim) fun _ _ _ _ _ _ _ _ _ h => h.elim) (by decide) (fun m e => by cases e)
  | n + 1 => (okA_from T (k := 9 + 2 * n) ((okB_from T (okr_from T n) (by omega)).mono (by omega)) (by omega) (fun m e => by cases e; rfl)).mono (by omega)
theorem okx_wish_from (T : Txt K mg t w) : FnOk P w K mg base (CXE P w) 20 t.f_wish_from t.d_wish_from ["words", "depth"] (spx_wish_from 6 t) := okr_from T 6
def spx_read_wish (t : Adr) : Sp := fun vs H Q E => ∃ (u : Wi), vs = [.str u.text] ∧ u.text.length ≤ 10000000 ∧ u.words.length ≤ 100000 ∧ u.names ∧ u.nums (Bd 700) ∧
  (rd 6 u → ∀ v H', Same H H' → (∀ hd, DAt hd H' v u.d) → Q v H') ∧ (¬ rd 6 u → ∀ H', Same H H' → E (.ref t.c_NoText) none H')
theorem sc_read_wish : FnScope ["text", "found"] ["text"] (defScope s_read_wish) := ⟨rfl, rfl, rfl, by decide +kernel, rfl, by decide +kernel, by decide +kernel⟩
theorem okx_read_wish (T : Txt K mg t w) : FnOk P w K mg base (CXE P w) 21 t.f_read_wish t.d_read_wish ["text"] (spx_read_wish t) := by
  refine T.read_wish.F.okE (k := 20) sc_read_wish (fun vs H Q E h => ?_) (fun cdv A outer s H vs Q E hr h => ?_)
  · obtain ⟨u, rfl, _⟩ := h
    rfl
  · obtain ⟨u, rfl, tl, wl, nn, nk, k1, k2⟩ := h
    refine ⟨_, (@pss_cons _ _ _ _ _ (@ps_expr _ _ _ _ (@pe_fn _ _ _ _ _ _ _ _ _ _ _ _ _ _ T.check_text (ok_check_text T) hr (by decide) (@pa_cons _ _ _ _ _ (pv 0) (@pa_nil _) star_name) (by rfl) (by decide) (by rfl) (by rfl)) (by rfl)) (@pss_cons _ _ _ _ _ (@ps_set _ _ 1 _ _ _ _ sc_read_wish.nd rfl (Or.inl rfl) (@pe_fnX _ _ _ _ _ _ _ _ _ _ _ _ _ _ _ _ _ T.wish_from (okx_wish_from T) hr (by decide) passX (@pa_cons _ _ _ _ _ (@pe_bm _ _ _ _ _ _ _ _ _ _ _ _ PySem.F.plainAttrs_str PySem.F.slot_str_split PySem.F.type_str_split mt_split (pv 0) (@pa_cons _ _ _ _ _ (@pe_str _ _ _ _) (@pa_nil _) star_con) (by rfl) (by rfl) (by rfl) (by rfl) (by rfl)) (@pa_cons _ _ _ _ _ (@pe_konI _ _ _ _ T.k_DEEPEST (by rfl) (by decide)) (@pa_nil _) star_name) star_call) (by rfl) (by decide) (by rfl) (by rfl)) (by rfl) (by first | exact .inl rfl | exact .inr rfl | assumption)) (@pss_cons _ _ _ _ _ (@ps_if _ _ _ _ _ _ _ _ (@pt_cmpR _ _ _ _ _ _ _ _ op_gt (@pe_callB _ _ _ _ _ _ _ _ _ call_len_seq (by rfl) T.b_len PySem.boot_len (@pa_cons _ _ _ _ _ (@pe_ix _ _ _ _ _ _ _ ix_tup (pv 1) (@pe_int _ _ _ _) (fun _ _ => rfl)) (@pa_nil _) star_sub) (by decide) (by decide) (by rfl) (by rfl)) (@pe_int _ _ _ _) (nomark _)) (@pss_one _ _ _ (@ps_raise0 _ _ _ _ _ _ _ _ _ _ _ _ _ _ _ _ _ _ _ _ T.e_NoText T.m_NoText rfl (by decide))) (@pss_nil _)) (@pss_one _ _ _ (@ps_ret _ _ _ _ (@pe_ix _ _ _ _ _ _ _ ix_tup (pv 1) (@pe_int _ _ _ _) (fun _ _ => rfl))))))), ?_⟩
    have big : 10000000 ≤ sizeLine := by decide
    refine st_exprG (R := fun v H' => H = H') (gv_call (pa_c (pu_v rfl) pa_n) fun Q f => ⟨_, rfl, f _ _ rfl⟩) ?_
    rintro _ _ rfl
    have SP : ∀ {σ : L2.St}, σ[0]? = some (some (.str u.text)) → Gv (tBM K "str" (fun x xs H Q => ∃ a b, x = .str a ∧ xs = [.str b] ∧ 1 ≤ b.length ∧ a.length ≤ sizeLine ∧ (Txt.split a b).length ≤ sizeLine ∧ ∀ p, H p = none → Q (.ref p) (upd H p (.lst ((Txt.split a b).map V.str)))) (tVar 0) (tCons (tC (.str (Str.ofString " "))) tNil)) σ H (fun v H' => ∃ p, H p = none ∧ v = .ref p ∧ H' = upd H p (.lst (u.words.map V.str))) := fun h0 => gv_split (pu_v h0) pu_c (by decide +kernel) (by omega) (Wi.split_text nn) (by omega)
    by_cases hrd : rd 6 u
    · refine st_setG (R := fun w H' => ∃ a v r, w = .ref a ∧ Same H H' ∧ H' a = some (.tup [v, .ref r]) ∧ (∀ hd, DAt hd H' v u.d) ∧ H' r = some (.lst [])) (gv_callA (sp := spx_wish_from 6 t) (ga_cons (SP rfl) fun _ _ _ => ga_cons (Pu.gv (v := .int 6) pu_c) fun _ _ _ => ga_nil) ?_) ?_
      · rintro _ _ ⟨_, _, r, rfl, ⟨p, hp, rfl, rfl⟩, _, _, r2, rfl, ⟨rfl, rfl⟩, rfl, rfl⟩ Q q
        exact ⟨p, u, [], rfl, by rw [List.append_nil, upd_same], by rw [List.append_nil]; exact wl, nn, nk, fun _ a v r H' s h1 h2 h3 _ => q _ _ ⟨a, v, r, rfl, (Same.upd hp).trans s, h1, h2, h3⟩, fun z => absurd hrd z⟩
      rintro _ H1 ⟨a, v, r, rfl, s1, ha, hv, hr1⟩
      refine st_ifN (b := false) (pt_t (pu_cast (pu_gt (pu_lenL (pa_c (pu_ixT (pu_v rfl) pu_c (SqT.of ha) rfl) pa_n) (SqL.of hr1)) pu_c) (by simp))) (fun e => by cases e) fun _ => ?_
      exact st_ret (pu_ixT (pu_v rfl) pu_c (SqT.of ha) rfl) (k1 hrd v H1 s1 hv)
    · refine st_setG (R := fun _ _ => False) (gv_callA (sp := spx_wish_from 6 t) (ga_cons (SP rfl) fun _ _ _ => ga_cons (Pu.gv (v := .int 6) pu_c) fun _ _ _ => ga_nil) ?_) fun _ _ z => z.elim
      rintro _ _ ⟨_, _, r, rfl, ⟨p, hp, rfl, rfl⟩, _, _, r2, rfl, ⟨rfl, rfl⟩, rfl, rfl⟩ Q q
      exact ⟨p, u, [], rfl, by rw [List.append_nil, upd_same], by rw [List.append_nil]; exact wl, nn, nk, fun z => absurd z hrd, fun _ H' s => k2 hrd H' ((Same.upd hp).trans s)⟩
def sp_l_hand (K : PySem.W.Frag) : Sp := fun vs H Q _ => ∃ (a : Addr) (ns : List Int), vs = [.ref a] ∧ SqL K H a (ns.map V.int) ∧ ∀ hd sc H', Same H H' → H hd = none → HandAt H' hd sc → Q (.ref hd) H'
theorem sc_l_hand : FnScope ["_law_script"] ["_law_script"] (defScope s_l_hand) := ⟨rfl, rfl, rfl, by decide +kernel, rfl, by decide +kernel, by decide +kernel⟩
theorem ok_l_hand (T : Txt K mg t w) : FnOk P w K mg base CX0 1 t.f_l_hand t.d_l_hand ["_law_script"] (sp_l_hand K) := by
  refine T.l_hand.F.ok (k := 0) sc_l_hand (fun vs H Q E h => ?_) (fun cdv A outer s H vs Q E hr h => ?_)
  · obtain ⟨a, ns, rfl, _⟩ := h
    rfl
  · obtain ⟨a, ns, rfl, hS, k⟩ := h
    refine ⟨_, (@pss_one _ _ _ (@ps_ret _ _ _ _ (@pe_lst _ _ _ _ (@pa_cons _ _ _ _ _ (@pe_callTy _ _ _ _ _ _ _ _ _ call_list_of (by rfl) T.b_list PyProof.Rows.boot_list (@pa_cons _ _ _ _ _ (@pe_slice _ _ _ _ _ _ _ _ _ _ sl_list (pv 0) (@po_none _) (@po_some _ _ _ (@pe_int _ _ _ _))) (@pa_nil _) star_sub) (by decide) (by decide) (by rfl) (by rfl)) (@pa_cons _ _ _ _ _ (@pe_int _ _ _ _) (@pa_cons _ _ _ _ _ (@pe_int _ _ _ _) (@pa_cons _ _ _ _ _ (@pe_int _ _ _ _) (@pa_cons _ _ _ _ _ (@pe_int _ _ _ _) (@pa_cons _ _ _ _ _ (@pe_int _ _ _ _) (@pa_nil _) star_con) star_con) star_con) star_con) star_con) star_call)))), ?_⟩
    refine ⟨_, rfl, 63, rfl, a, _, rfl, hS, fun p hp => ?_⟩
    refine ⟨p, _, rfl, .inl (SqL.of upd_same), fun l hl => ⟨by show 6 ≤ sizeLine; decide, fun hd hh => ?_⟩⟩
    have s1 : Same H (upd H p (.lst (cutV (ns.map V.int) none (some 63)))) := Same.upd hp
    have s2 : Same (upd H p (.lst (cutV (ns.map V.int) none (some 63)))) _ := Same.upd (o := .lst (cutV (ns.map V.int) none (some 63))) hl
    have s3 := s1.trans (s2.trans (Same.upd (o := .lst [.ref l, .int 0, .int 0, .int 0, .int 20011, .int 40009]) hh))
    refine k hd l _ s3 (s1.free (s2.free hh)) ⟨(ns.drop (HT.sIx (ns.map V.int).length 0 none)).take (HT.sIx (ns.map V.int).length (ns.map V.int).length (some 63) - HT.sIx (ns.map V.int).length 0 none), 0, 0, 0, 20011, 40009, upd_same, ?_, by decide⟩
    rw [upd_ne (ne_of_none upd_same hh), upd_same, List.map_take, List.map_drop]
    rfl
def sp_l_next : Sp := fun vs H Q _ => ∃ hd sc, vs = [.ref hd] ∧ HandAt H hd sc ∧ ∀ (n : Int) H', HandAt H' hd sc → SameB hd H H' → Q (.int n) H'
theorem sc_l_next : FnScope ["_law_hand_here"] ["_law_hand_here"] (defScope s_l_next) := ⟨rfl, rfl, rfl, by decide +kernel, rfl, by decide +kernel, by decide +kernel⟩
theorem ok_l_next (T : Txt K mg t w) : FnOk P w K mg base CX0 1 t.f_l_next t.d_l_next ["_law_hand_here"] sp_l_next := by
  refine T.l_next.F.ok (k := 0) sc_l_next (fun vs H Q E h => ?_) (fun cdv A outer s H vs Q E hr h => ?_)
  · obtain ⟨hd, sc, rfl, _⟩ := h
    rfl
  · obtain ⟨hd, sc, rfl, ⟨ns, i, b, c, p, q, h1, h2, h0⟩, k⟩ := h
    have nsc := HandAt.ne h1 h2
    refine ⟨_, (@pss_cons _ _ _ _ _ (@ps_asg _ _ _ _ _ _ (@pe_op _ _ _ _ _ _ _ _ op_modN (@pe_op _ _ _ _ _ _ _ _ op_mulB (@pe_ix _ _ _ _ _ _ _ ix_list (pv 0) (@pe_int _ _ _ _) (fun _ _ => rfl)) (@pe_int _ _ _ _)) (@pe_int _ _ _ _)) (@pg_sub _ _ _ _ _ _ _ (pv 0) (@pe_int _ _ _ _) set_list (by intro _; rfl)) (by rfl) (by rfl) (by rfl)) (@pss_cons _ _ _ _ _ (@ps_asg _ _ _ _ _ _ (@pe_op _ _ _ _ _ _ _ _ op_modN (@pe_op _ _ _ _ _ _ _ _ op_mulB (@pe_ix _ _ _ _ _ _ _ ix_list (pv 0) (@pe_int _ _ _ _) (fun _ _ => rfl)) (@pe_int _ _ _ _)) (@pe_int _ _ _ _)) (@pg_sub _ _ _ _ _ _ _ (pv 0) (@pe_int _ _ _ _) set_list (by intro _; rfl)) (by rfl) (by rfl) (by rfl)) (@pss_one _ _ _ (@ps_ret _ _ _ _ (@pe_op _ _ _ _ _ _ _ _ op_add (@pe_ix _ _ _ _ _ _ _ ix_list (pv 0) (@pe_int _ _ _ _) (fun _ _ => rfl)) (@pe_ix _ _ _ _ _ _ _ ix_list (pv 0) (@pe_int _ _ _ _) (fun _ _ => rfl))))))), ?_⟩
    refine st_put (pu_mod (pu_mul (pu_ixL (pu_v rfl) pu_c (SqL.of h1) rfl) pu_c (IntMulOk.of_right (by decide))) pu_c (by decide)) (pu_v rfl) pu_c h1 rfl ?_
    refine st_put (pu_mod (pu_mul (pu_ixL (pu_v rfl) pu_c (SqL.of upd_same) rfl) pu_c (IntMulOk.of_right (by decide))) pu_c (by decide)) (pu_v rfl) pu_c upd_same rfl ?_
    refine st_ret (pu_add (pu_ixL (pu_v rfl) pu_c (SqL.of upd_same) rfl) (pu_ixL (pu_v rfl) pu_c (SqL.of upd_same) rfl)) ?_
    exact k _ _ ⟨ns, i, b, c, _, _, upd_same, by rw [upd_ne nsc, upd_ne nsc]; exact h2, h0⟩ (SameB.upd.trans SameB.upd)
def sp_l_take : Sp := fun vs H Q _ => ∃ hd sc, vs = [.ref hd] ∧ HandAt H hd sc ∧ ∀ H', HandAt H' hd sc → SameB hd H H' → Q .non H'
theorem sc_l_take : FnScope ["_law_hand_here", "_law_cell"] ["_law_hand_here"] (defScope s_l_take) := ⟨rfl, rfl, rfl, by decide +kernel, rfl, by decide +kernel, by decide +kernel⟩
theorem ok_l_take (T : Txt K mg t w) : FnOk P w K mg base CX0 2 t.f_l_take t.d_l_take ["_law_hand_here"] sp_l_take := by
  refine T.l_take.F.ok (k := 1) sc_l_take (fun vs H Q E h => ?_) (fun cdv A outer s H vs Q E hr h => ?_)
  · obtain ⟨hd, sc, rfl, _⟩ := h
    rfl
  · obtain ⟨hd, sc, rfl, ⟨ns, i, b, c, p, q, h1, h2, h0⟩, k⟩ := h
    have nsc := HandAt.ne h1 h2
    refine ⟨_, (@pss_cons _ _ _ _ _ (@ps_set _ _ 1 _ _ _ _ sc_l_take.nd rfl (Or.inl rfl) (@pe_int _ _ _ _) (by rfl) (by first | exact .inl rfl | exact .inr rfl | assumption)) (@pss_cons _ _ _ _ _ (@ps_if _ _ _ _ _ _ _ _ (@pt_cmpR _ _ _ _ _ _ _ _ op_lt (@pe_ix _ _ _ _ _ _ _ ix_list (pv 0) (@pe_int _ _ _ _) (fun _ _ => rfl)) (@pe_callB _ _ _ _ _ _ _ _ _ call_len_seq (by rfl) T.b_len PySem.boot_len (@pa_cons _ _ _ _ _ (@pe_ix _ _ _ _ _ _ _ ix_list (pv 0) (@pe_int _ _ _ _) (fun _ _ => rfl)) (@pa_nil _) star_sub) (by decide) (by decide) (by rfl) (by rfl)) (nomark _)) (@pss_one _ _ _ (@ps_set _ _ 1 _ _ _ _ sc_l_take.nd rfl (Or.inl rfl) (@pe_callB _ _ _ _ _ _ _ _ _ call_abs (by rfl) T.b_abs PyProof.Rows.boot_abs (@pa_cons _ _ _ _ _ (@pe_ix _ _ _ _ _ _ _ ix_list (@pe_ix _ _ _ _ _ _ _ ix_list (pv 0) (@pe_int _ _ _ _) (fun _ _ => rfl)) (@pe_ix _ _ _ _ _ _ _ ix_list (pv 0) (@pe_int _ _ _ _) (fun _ _ => rfl)) (fun _ _ => rfl)) (@pa_nil _) star_sub) (by decide) (by decide) (by rfl) (by rfl)) (by rfl) (by first | exact .inl rfl | exact .inr rfl | assumption))) (@pss_nil _)) (@pss_cons _ _ _ _ _ (@ps_augS _ _ _ _ _ _ _ _ _ _ _ _ _ (pv 0) (@pe_int _ _ _ _) get_list (@pe_int _ _ _ _) ip_add set_list (by intros; rfl)) (@pss_cons _ _ _ _ _ (@ps_if _ _ _ _ _ _ _ _ (@pt_cmpR _ _ _ _ _ _ _ _ op_ge (pv 1) (@pe_op _ _ _ _ _ _ _ _ op_pow (@pe_int _ _ _ _) (@pe_int _ _ _ _)) (nomark _)) (@pss_one _ _ _ (@ps_asg _ _ _ _ _ _ (pv 1) (@pg_sub _ _ _ _ _ _ _ (pv 0) (@pe_int _ _ _ _) set_list (by intro _; rfl)) (by rfl) (by rfl) (by rfl))) (@pss_one _ _ _ (@ps_asg _ _ _ _ _ _ (@pe_int _ _ _ _) (@pg_sub _ _ _ _ _ _ _ (pv 0) (@pe_int _ _ _ _) set_list (by intro _; rfl)) (by rfl) (by rfl) (by rfl)))) (@pss_cons _ _ _ _ _ (@ps_asg _ _ _ _ _ _ (@pe_op _ _ _ _ _ _ _ _ op_add (@pe_op _ _ _ _ _ _ _ _ op_modN (@pe_op _ _ _ _ _ _ _ _ op_add (@pe_ix _ _ _ _ _ _ _ ix_list (pv 0) (@pe_int _ _ _ _) (fun _ _ => rfl)) (@pe_op _ _ _ _ _ _ _ _ op_modN (pv 1) (@pe_int _ _ _ _))) (@pe_int _ _ _ _)) (@pe_int _ _ _ _)) (@pg_sub _ _ _ _ _ _ _ (pv 0) (@pe_int _ _ _ _) set_list (by intro _; rfl)) (by rfl) (by rfl) (by rfl)) (@pss_cons _ _ _ _ _ (@ps_asg _ _ _ _ _ _ (@pe_op _ _ _ _ _ _ _ _ op_add (@pe_op _ _ _ _ _ _ _ _ op_modN (@pe_op _ _ _ _ _ _ _ _ op_add (@pe_op _ _ _ _ _ _ _ _ op_mulB (@pe_ix _ _ _ _ _ _ _ ix_list (pv 0) (@pe_int _ _ _ _) (fun _ _ => rfl)) (@pe_int _ _ _ _)) (@pe_op _ _ _ _ _ _ _ _ op_modN (pv 1) (@pe_int _ _ _ _))) (@pe_int _ _ _ _)) (@pe_int _ _ _ _)) (@pg_sub _ _ _ _ _ _ _ (pv 0) (@pe_int _ _ _ _) set_list (by intro _; rfl)) (by rfl) (by rfl) (by rfl)) (@pss_cons _ _ _ _ _ (@ps_expr _ _ _ _ (@pe_fn _ _ _ _ _ _ _ _ _ _ _ _ _ _ T.l_next (ok_l_next T) hr (by decide) (@pa_cons _ _ _ _ _ (pv 0) (@pa_nil _) star_name) (by rfl) (by decide) (by rfl) (by rfl)) (by rfl)) (@pss_one _ _ _ (@ps_expr _ _ _ _ (@pe_fn _ _ _ _ _ _ _ _ _ _ _ _ _ _ T.l_next (ok_l_next T) hr (by decide) (@pa_cons _ _ _ _ _ (pv 0) (@pa_nil _) star_name) (by rfl) (by decide) (by rfl) (by rfl)) (by rfl)))))))))), ?_⟩
    refine st_set pu_c ?_
    refine st_ifSet (R := fun v H' => H = H' ∧ ∃ cell : Int, v = .int cell) (v0 := .int 0) (pt_t (pu_lt (pu_ixL (pu_v rfl) pu_c (SqL.of h1) rfl) (pu_lenL (pa_c (pu_ixL (pu_v rfl) pu_c (SqL.of h1) rfl) pa_n) (SqL.of h2)))) (fun e => ?_) rfl (fun _ => ⟨rfl, 0, rfl⟩) ?_
    · have e' : i < ((ns.map V.int).length : Int) := by simpa using e
      rw [List.length_map] at e'
      obtain ⟨m, hm⟩ : ∃ m, ns[i.toNat]? = some m := ⟨_, List.getElem?_eq_getElem (by omega)⟩
      have hat : atI (ns.map V.int) i = some (.int m) := by
        have := atI_nat (xs := ns.map V.int) (j := i.toNat) (v := .int m) (by rw [List.getElem?_map, hm]; rfl)
        rwa [show ((i.toNat : Nat) : Int) = i by omega] at this
      exact (pu_abs (pa_c (pu_ixL (pu_ixL (pu_v rfl) pu_c (SqL.of h1) rfl) (pu_ixL (pu_v rfl) pu_c (SqL.of h1) rfl) (SqL.of h2) hat) pa_n)).gv' ⟨rfl, _, rfl⟩
    rintro v H' ⟨rfl, cell, rfl⟩
    refine st_augI (pu_v rfl) pu_c (by decide) h1 rfl pu_c rfl ?_
    refine st_if (pt_t (pu_ge (pu_v rfl) (pu_pow pu_c pu_c ⟨by decide, by decide, by decide⟩))) (fun _ => st_put1 (pu_v rfl) (pu_v rfl) pu_c upd_same rfl ?_) (fun _ => st_put1 pu_c (pu_v rfl) pu_c upd_same rfl ?_)
    all_goals
      refine st_put (pu_add (pu_mod (pu_add (pu_ixL (pu_v rfl) pu_c (SqL.of upd_same) rfl) (pu_mod (pu_v rfl) pu_c (by decide))) pu_c (by decide)) pu_c) (pu_v rfl) pu_c upd_same rfl ?_
      refine st_put (pu_add (pu_mod (pu_add (pu_mul (pu_ixL (pu_v rfl) pu_c (SqL.of upd_same) rfl) pu_c (IntMulOk.of_right (by decide))) (pu_mod (pu_v rfl) pu_c (by decide))) pu_c (by decide)) pu_c) (pu_v rfl) pu_c upd_same rfl ?_
      refine st_exprG (R := fun _ H' => HandAt H' hd sc ∧ SameB hd H H') (gv_call (pa_c (pu_v rfl) pa_n) fun Q f => ⟨hd, sc, rfl, ⟨ns, _, _, _, _, _, upd_same, by rw [upd_ne nsc, upd_ne nsc, upd_ne nsc, upd_ne nsc]; exact h2, (by omega : 0 ≤ i + 1)⟩, fun n H' a s => f _ _ ⟨a, ((SameB.upd.trans SameB.upd).trans (SameB.upd.trans SameB.upd)).trans s⟩⟩) ?_
      rintro _ H1 ⟨a1, s1⟩
      refine st_exprG1 (R := fun _ H' => HandAt H' hd sc ∧ SameB hd H H') (gv_call (pa_c (pu_v rfl) pa_n) fun Q f => ⟨hd, sc, rfl, a1, fun n H' a s => f _ _ ⟨a, s1.trans s⟩⟩) ?_
      rintro _ H2 ⟨a2, s2⟩
      exact k _ a2 s2
def sp_l_draw : Sp := fun vs H Q _ => ∃ hd sc m, vs = [.ref hd, .int m] ∧ HandAt H hd sc ∧ 0 < m ∧ Bd 9000 m ∧ ∀ (n : Int) H', 0 ≤ n → n < m → HandAt H' hd sc → SameB hd H H' → Q (.int n) H'
/-- draw(hand, m), m known -/
theorem gv_draw {σ : L2.St} {H : Hp} {hd sc : Addr} {t : TA} {m : Int} (hh : HandAt H hd sc) (ha : PuA t σ H [.ref hd, .int m]) (h0 : 0 < m) (hb : Bd 9000 m) : Gv (tCall sp_l_draw [] E0 t) σ H (fun v H' => (∃ n : Int, v = .int n ∧ 0 ≤ n ∧ n < m) ∧ HandAt H' hd sc ∧ SameB hd H H') :=
  gv_call ha fun Q f => ⟨hd, sc, m, rfl, hh, h0, hb, fun n H' z0 z1 a s => f _ _ ⟨⟨n, rfl, z0, z1⟩, a, s⟩⟩
theorem sc_l_draw : FnScope ["_law_hand_here", "_law_many", "_law_got", "_law_value", "_law_size"] ["_law_hand_here", "_law_many"] (defScope s_l_draw) := ⟨rfl, rfl, rfl, by decide +kernel, rfl, by decide +kernel, by decide +kernel⟩
theorem ok_l_draw (T : Txt K mg t w) : FnOk P w K mg base CX0 3 t.f_l_draw t.d_l_draw ["_law_hand_here", "_law_many"] sp_l_draw := by
  refine T.l_draw.F.ok (k := 2) sc_l_draw (fun vs H Q E h => ?_) (fun cdv A outer s H vs Q E hr h => ?_)
  · obtain ⟨hd, sc, m, rfl, _⟩ := h
    rfl
  · obtain ⟨hd, sc, m, rfl, hh, hm, hB, k⟩ := h
    refine ⟨_, (@pss_cons _ _ _ _ _ (@ps_if _ _ _ _ _ _ _ _ (PW.pt (@pw_and _ _ _ _ _ _ _ (@pt_cmpR _ _ _ _ _ _ _ _ op_eq (@pe_ix _ _ _ _ _ _ _ ix_list (pv 0) (@pe_int _ _ _ _) (fun _ _ => rfl)) (@pe_int _ _ _ _) (nomark _)) (@pw_and1 _ _ _ _ (@pt_cmpR _ _ _ _ _ _ _ _ op_eq (@pe_ix _ _ _ _ _ _ _ ix_list (pv 0) (@pe_int _ _ _ _) (fun _ _ => rfl)) (@pe_int _ _ _ _) (nomark _))))) (@pss_one _ _ _ (@ps_expr _ _ _ _ (@pe_fn _ _ _ _ _ _ _ _ _ _ _ _ _ _ T.l_take (ok_l_take T) hr (by decide) (@pa_cons _ _ _ _ _ (pv 0) (@pa_nil _) star_name) (by rfl) (by decide) (by rfl) (by rfl)) (by rfl))) (@pss_nil _)) (@pss_cons _ _ _ _ _ (@ps_if _ _ _ _ _ _ _ _ (@pt_cmpR _ _ _ _ _ _ _ _ op_gt (@pe_ix _ _ _ _ _ _ _ ix_list (pv 0) (@pe_int _ _ _ _) (fun _ _ => rfl)) (@pe_int _ _ _ _) (nomark _)) (@pss_cons _ _ _ _ _ (@ps_set _ _ 2 _ _ _ _ sc_l_draw.nd rfl (Or.inl rfl) (@pe_op _ _ _ _ _ _ _ _ op_modN (@pe_ix _ _ _ _ _ _ _ ix_list (pv 0) (@pe_int _ _ _ _) (fun _ _ => rfl)) (pv 1)) (by rfl) (by first | exact .inl rfl | exact .inr rfl | assumption)) (@pss_cons _ _ _ _ _ (@ps_asg _ _ _ _ _ _ (@pe_op _ _ _ _ _ _ _ _ op_fdivB (@pe_ix _ _ _ _ _ _ _ ix_list (pv 0) (@pe_int _ _ _ _) (fun _ _ => rfl)) (pv 1)) (@pg_sub _ _ _ _ _ _ _ (pv 0) (@pe_int _ _ _ _) set_list (by intro _; rfl)) (by rfl) (by rfl) (by rfl)) (@pss_one _ _ _ (@ps_ret _ _ _ _ (pv 2))))) (@pss_nil _)) (@pss_cons _ _ _ _ _ (@ps_augS _ _ _ _ _ _ _ _ _ _ _ _ _ (pv 0) (@pe_int _ _ _ _) get_list (@pe_int _ _ _ _) ip_sub set_list (by intros; rfl)) (@pss_cons _ _ _ _ _ (@ps_set _ _ 3 _ _ _ _ sc_l_draw.nd rfl (Or.inl rfl) (@pe_fn _ _ _ _ _ _ _ _ _ _ _ _ _ _ T.l_next (ok_l_next T) hr (by decide) (@pa_cons _ _ _ _ _ (pv 0) (@pa_nil _) star_name) (by rfl) (by decide) (by rfl) (by rfl)) (by rfl) (by first | exact .inl rfl | exact .inr rfl | assumption)) (@pss_cons _ _ _ _ _ (@ps_set _ _ 4 _ _ _ _ sc_l_draw.nd rfl (Or.inl rfl) (@pe_int _ _ _ _) (by rfl) (by first | exact .inl rfl | exact .inr rfl | assumption)) (@pss_cons _ _ _ _ _ (@ps_while _ _ _ _ _ _ PassesOwn.never (@pt_cmpR _ _ _ _ _ _ _ _ op_lt (pv 4) (pv 1) (nomark _)) (@pss_cons _ _ _ _ _ (@ps_set _ _ 3 _ _ _ _ sc_l_draw.nd rfl (Or.inl rfl) (@pe_op _ _ _ _ _ _ _ _ op_add (@pe_op _ _ _ _ _ _ _ _ op_mulB (pv 3) (@pe_int _ _ _ _)) (@pe_fn _ _ _ _ _ _ _ _ _ _ _ _ _ _ T.l_next (ok_l_next T) hr (by decide) (@pa_cons _ _ _ _ _ (pv 0) (@pa_nil _) star_name) (by rfl) (by decide) (by rfl) (by rfl))) (by rfl) (by first | exact .inl rfl | exact .inr rfl | assumption)) (@pss_one _ _ _ (@ps_set _ _ 4 _ _ _ _ sc_l_draw.nd rfl (Or.inl rfl) (@pe_op _ _ _ _ _ _ _ _ op_mulB (pv 4) (@pe_int _ _ _ _)) (by rfl) (by first | exact .inl rfl | exact .inr rfl | assumption))))) (@pss_one _ _ _ (@ps_ret _ _ _ _ (@pe_op _ _ _ _ _ _ _ _ op_modN (pv 3) (pv 1)))))))))), ?_⟩
    refine (show ∀ (H1 : Hp) (rest : TS) (D : Ends) (σ : L2.St) (tc : TT) (te : TE), (∃ b, PuT tc σ H b ∧ (b = true → Gv te σ H (fun _ H' => HandAt H' hd sc ∧ SameB hd H H'))) → (∀ H', HandAt H' hd sc → SameB hd H H' → rest D σ H') → tSeq (tIfS tc (tDrop te) tNext) rest D σ H from fun H1 rest D σ tc te ⟨b, hc, he⟩ q => st_if hc (fun e => st_exprG1 (he e) fun v H' r => q H' r.1 r.2) fun _ => q H hh (SameB.refl _ _)) H _ _ _ _ _ ?_ ?_
    · obtain ⟨ns, i, b, c, p, q, h1, h2, h0⟩ := id hh
      exact ⟨_, pt_and (pt_t (pu_eqI (pu_ixL (pu_v rfl) pu_c (SqL.of h1) rfl) pu_c)) fun _ => pt_t (pu_eqI (pu_ixL (pu_v rfl) pu_c (SqL.of h1) rfl) pu_c), fun _ => gv_call (pa_c (pu_v rfl) pa_n) fun Q f => ⟨hd, sc, rfl, hh, fun H' a s => f _ _ ⟨a, s⟩⟩⟩
    intro H1 hh1 s1
    obtain ⟨ns, i, b, c, p, q, h1, h2, h0⟩ := id hh1
    have nsc := HandAt.ne h1 h2
    refine st_if (pt_t (pu_gt (pu_ixL (pu_v rfl) pu_c (SqL.of h1) rfl) pu_c)) (fun _ => ?_) fun _ => ?_
    · refine st_set (pu_mod (pu_ixL (pu_v rfl) pu_c (SqL.of h1) rfl) (pu_v rfl) (by omega)) ?_
      refine st_put (pu_fdiv (pu_ixL (pu_v rfl) pu_c (SqL.of h1) rfl) (pu_v rfl) ⟨by omega, hB⟩) (pu_v rfl) pu_c h1 rfl ?_
      refine st_ret (pu_v rfl) ?_
      have hl := fmod_lt (x := b) hm
      exact k _ _ hl.1 hl.2 ⟨ns, i, _, c, p, q, upd_same, by rw [upd_ne nsc]; exact h2, h0⟩ (s1.trans SameB.upd)
    · refine st_augI (pu_v rfl) pu_c (by decide) h1 rfl pu_c rfl ?_
      have hh2 : HandAt (upd H1 hd (.lst [.ref sc, .int i, .int b, .int (c - 1), .int p, .int q])) hd sc := ⟨ns, i, b, c - 1, p, q, upd_same, by rw [upd_ne nsc]; exact h2, h0⟩
      refine st_setG (R := fun v H' => (∃ n : Int, v = .int n) ∧ HandAt H' hd sc ∧ SameB hd H H') (gv_call (pa_c (pu_v rfl) pa_n) fun Q f => ⟨hd, sc, rfl, hh2, fun n H' a s => f _ _ ⟨⟨n, rfl⟩, a, s1.trans (SameB.upd.trans s)⟩⟩) ?_
      rintro _ H3 ⟨⟨n, rfl⟩, hh3, s3⟩
      refine st_set pu_c ?_
      refine st_while (fun σ H' => HandAt H' hd sc ∧ SameB hd H H' ∧ ∃ (x y : Int) (r : Option V), σ = [some (.ref hd), some (.int m), r, some (.int x), some (.int y)] ∧ 0 < y) (fun σ _ => match σ with | [_, _, _, _, some (.int y)] => (m - y).toNat | _ => 0)
        ⟨hh3, s3, n, 4294967296, _, rfl, by decide⟩ ?_
      rintro σ H4 ⟨hh4, s4, x, y, r, rfl, hy⟩
      refine ⟨_, pt_t (pu_lt (pu_v rfl) (pu_v rfl)), fun e => ?_, fun e => ?_⟩
      · have e' : y < m := by simpa using e
        refine st_setG (R := fun v H' => (∃ n : Int, v = .int n) ∧ HandAt H' hd sc ∧ SameB hd H H') (fun Q f => pu_mul (pu_v rfl) pu_c (IntMulOk.of_right (by decide)) _ ?_) ?_
        · exact gv_call (sp := sp_l_next) (E := E0) (R := fun v H' => (∃ n : Int, v = .int n) ∧ HandAt H' hd sc ∧ SameB hd H H') (pa_c (pu_v rfl) pa_n) (fun Q f => ⟨hd, sc, rfl, hh4, fun n H' a s => f _ _ ⟨⟨n, rfl⟩, a, s4.trans s⟩⟩) _ fun v H' ⟨⟨n, e⟩, a, s⟩ => by
            subst e
            exact ⟨_, n, rfl, rfl, f _ _ ⟨⟨_, rfl⟩, a, s⟩⟩
        rintro _ H5 ⟨⟨z, rfl⟩, hh5, s5⟩
        refine st_set1 (pu_mul (pu_v rfl) pu_c (IntMulOk.of_right (by decide))) ?_
        exact ⟨⟨hh5, s5, z, y * 4294967296, r, rfl, by omega⟩, by show (m - y * 4294967296).toNat < (m - y).toNat; omega⟩
      · refine st_ret (pu_mod (pu_v rfl) (pu_v rfl) (by omega)) ?_
        have hl := fmod_lt (x := x) hm
        exact k _ _ hl.1 hl.2 hh4 s4
def sp_l_whole : Sp := fun vs H Q _ => ∃ n : Int, vs = [.int n] ∧ Q (.bl true) H
theorem sc_l_whole : FnScope ["_law_thing"] ["_law_thing"] (defScope s_l_whole) := ⟨rfl, rfl, rfl, by decide +kernel, rfl, by decide +kernel, by decide +kernel⟩
theorem ok_l_whole (T : Txt K mg t w) : FnOk P w K mg base CX0 1 t.f_l_whole t.d_l_whole ["_law_thing"] sp_l_whole := by
  refine T.l_whole.F.ok (k := 0) sc_l_whole (fun vs H Q E h => ?_) (fun cdv A outer s H vs Q E hr h => ?_)
  · obtain ⟨n, rfl, _⟩ := h
    rfl
  · obtain ⟨n, rfl, k⟩ := h
    refine ⟨_, (@pss_one _ _ _ (@ps_ret _ _ _ _ (@pe_and _ _ _ _ _ _ _ (@pe_callB _ _ _ _ _ _ _ _ _ call_isinst (by rfl) T.b_isinstance PyProof.Rows.boot_isinstance (@pa_cons _ _ _ _ _ (pv 0) (@pa_cons _ _ _ _ _ (@pe_ty _ _ _ _ T.b_int PyProof.Rows.boot_int (by rfl) (by decide) (by decide)) (@pa_nil _) star_name) star_name) (by decide) (by decide) (by rfl) (by rfl)) (@pe_one _ _ _ _ _ (@pe_not _ _ _ _ (@pe_callB _ _ _ _ _ _ _ _ _ call_isinst (by rfl) T.b_isinstance PyProof.Rows.boot_isinstance (@pa_cons _ _ _ _ _ (pv 0) (@pa_cons _ _ _ _ _ (@pe_ty _ _ _ _ T.b_bool PyProof.Rows.boot_bool (by rfl) (by decide) (by decide)) (@pa_nil _) star_name) star_name) (by decide) (by decide) (by rfl) (by rfl))))))), ?_⟩
    exact st_ret (pu_and (pu_isi (pa_c (pu_v rfl) (pa_c pu_c pa_n)) (.int n) kit_same) fun _ => pu_not (pu_isi (pa_c (pu_v rfl) (pa_c pu_c pa_n)) (.int n) kit_int_bool)) k
def sp_l_number : Sp := fun vs H Q _ => ∃ hd sc, vs = [.ref hd] ∧ HandAt H hd sc ∧ ∀ (n : Int) H', n.natAbs < 10 ^ 60 → HandAt H' hd sc → SameB hd H H' → Q (.int n) H'
theorem gv_number {σ : L2.St} {H : Hp} {hd sc : Addr} {t : TA} (hh : HandAt H hd sc) (ha : PuA t σ H [.ref hd]) : Gv (tCall sp_l_number [] E0 t) σ H (fun v H' => (∃ n : Int, v = .int n ∧ n.natAbs < 10 ^ 60) ∧ HandAt H' hd sc ∧ SameB hd H H') :=
  gv_call ha fun Q f => ⟨hd, sc, rfl, hh, fun n H' hb a s => f _ _ ⟨⟨n, rfl, hb⟩, a, s⟩⟩
theorem sc_l_number : FnScope ["_law_hand_here", "_law_way", "_law_number_here"] ["_law_hand_here"] (defScope s_l_number) := ⟨rfl, rfl, rfl, by decide +kernel, rfl, by decide +kernel, by decide +kernel⟩
theorem ok_l_number (T : Txt K mg t w) : FnOk P w K mg base CX0 4 t.f_l_number t.d_l_number ["_law_hand_here"] sp_l_number := by
  refine T.l_number.F.ok (k := 3) sc_l_number (fun vs H Q E h => ?_) (fun cdv A outer s H vs Q E hr h => ?_)
  · obtain ⟨hd, sc, rfl, _⟩ := h
    rfl
  · obtain ⟨hd, sc, rfl, hh, k⟩ := h
    refine ⟨_, (@pss_cons _ _ _ _ _ (@ps_set _ _ 1 _ _ _ _ sc_l_number.nd rfl (Or.inl rfl) (@pe_fn _ _ _ _ _ _ _ _ _ _ _ _ _ _ T.l_draw (ok_l_draw T) hr (by decide) (@pa_cons _ _ _ _ _ (pv 0) (@pa_cons _ _ _ _ _ (@pe_int _ _ _ _) (@pa_nil _) star_con) star_name) (by rfl) (by decide) (by rfl) (by rfl)) (by rfl) (by first | exact .inl rfl | exact .inr rfl | assumption)) (@pss_cons _ _ _ _ _ (@ps_set _ _ 2 _ _ _ _ sc_l_number.nd rfl (Or.inl rfl) (@pe_fn _ _ _ _ _ _ _ _ _ _ _ _ _ _ T.l_draw (ok_l_draw T) hr (by decide) (@pa_cons _ _ _ _ _ (pv 0) (@pa_cons _ _ _ _ _ (@pe_int _ _ _ _) (@pa_nil _) star_con) star_name) (by rfl) (by decide) (by rfl) (by rfl)) (by rfl) (by first | exact .inl rfl | exact .inr rfl | assumption)) (@pss_cons _ _ _ _ _ (@ps_if _ _ _ _ _ _ _ _ (@pt_cmpR _ _ _ _ _ _ _ _ op_eq (pv 1) (@pe_int _ _ _ _) (nomark _)) (@pss_one _ _ _ (@ps_set _ _ 2 _ _ _ _ sc_l_number.nd rfl (Or.inl rfl) (@pe_fn _ _ _ _ _ _ _ _ _ _ _ _ _ _ T.l_draw (ok_l_draw T) hr (by decide) (@pa_cons _ _ _ _ _ (pv 0) (@pa_cons _ _ _ _ _ (@pe_op _ _ _ _ _ _ _ _ op_pow (@pe_int _ _ _ _) (@pe_int _ _ _ _)) (@pa_nil _) star_bin) star_name) (by rfl) (by decide) (by rfl) (by rfl)) (by rfl) (by first | exact .inl rfl | exact .inr rfl | assumption))) (@pss_nil _)) (@pss_cons _ _ _ _ _ (@ps_if _ _ _ _ _ _ _ _ (@pt_cmpR _ _ _ _ _ _ _ _ op_eq (pv 1) (@pe_int _ _ _ _) (nomark _)) (@pss_one _ _ _ (@ps_set _ _ 2 _ _ _ _ sc_l_number.nd rfl (Or.inl rfl) (@pe_op _ _ _ _ _ _ _ _ op_sub (@pe_op _ _ _ _ _ _ _ _ op_sub (@pe_op _ _ _ _ _ _ _ _ op_pow (@pe_int _ _ _ _) (@pe_int _ _ _ _)) (@pe_int _ _ _ _)) (pv 2)) (by rfl) (by first | exact .inl rfl | exact .inr rfl | assumption))) (@pss_nil _)) (@pss_cons _ _ _ _ _ (@ps_if _ _ _ _ _ _ _ _ (@pt_cmpR _ _ _ _ _ _ _ _ op_eq (pv 1) (@pe_int _ _ _ _) (nomark _)) (@pss_one _ _ _ (@ps_set _ _ 2 _ _ _ _ sc_l_number.nd rfl (Or.inl rfl) (@pe_op _ _ _ _ _ _ _ _ op_fdivB (@pe_op _ _ _ _ _ _ _ _ op_sub (@pe_op _ _ _ _ _ _ _ _ op_pow (@pe_int _ _ _ _) (@pe_int _ _ _ _)) (@pe_int _ _ _ _)) (@pe_op _ _ _ _ _ _ _ _ op_add (@pe_int _ _ _ _) (@pe_fn _ _ _ _ _ _ _ _ _ _ _ _ _ _ T.l_draw (ok_l_draw T) hr (by decide) (@pa_cons _ _ _ _ _ (pv 0) (@pa_cons _ _ _ _ _ (@pe_op _ _ _ _ _ _ _ _ op_pow (@pe_int _ _ _ _) (@pe_int _ _ _ _)) (@pa_nil _) star_bin) star_name) (by rfl) (by decide) (by rfl) (by rfl)))) (by rfl) (by first | exact .inl rfl | exact .inr rfl | assumption))) (@pss_nil _)) (@pss_cons _ _ _ _ _ (@ps_if _ _ _ _ _ _ _ _ (@pt_cmpR _ _ _ _ _ _ _ _ op_eq (pv 1) (@pe_int _ _ _ _) (nomark _)) (@pss_one _ _ _ (@ps_set _ _ 2 _ _ _ _ sc_l_number.nd rfl (Or.inl rfl) (@pe_fn _ _ _ _ _ _ _ _ _ _ _ _ _ _ T.l_draw (ok_l_draw T) hr (by decide) (@pa_cons _ _ _ _ _ (pv 0) (@pa_cons _ _ _ _ _ (@pe_op _ _ _ _ _ _ _ _ op_pow (@pe_int _ _ _ _) (@pe_int _ _ _ _)) (@pa_nil _) star_bin) star_name) (by rfl) (by decide) (by rfl) (by rfl)) (by rfl) (by first | exact .inl rfl | exact .inr rfl | assumption))) (@pss_nil _)) (@pss_cons _ _ _ _ _ (@ps_if _ _ _ _ _ _ _ _ (@pt_cmpR _ _ _ _ _ _ _ _ op_eq (@pe_fn _ _ _ _ _ _ _ _ _ _ _ _ _ _ T.l_draw (ok_l_draw T) hr (by decide) (@pa_cons _ _ _ _ _ (pv 0) (@pa_cons _ _ _ _ _ (@pe_int _ _ _ _) (@pa_nil _) star_con) star_name) (by rfl) (by decide) (by rfl) (by rfl)) (@pe_int _ _ _ _) (nomark _)) (@pss_one _ _ _ (@ps_set _ _ 2 _ _ _ _ sc_l_number.nd rfl (Or.inl rfl) (@pe_un _ _ _ _ _ _ un_neg (pv 2)) (by rfl) (by first | exact .inl rfl | exact .inr rfl | assumption))) (@pss_nil _)) (@pss_one _ _ _ (@ps_ret _ _ _ _ (pv 2)))))))))), ?_⟩
    have P60 : ∀ {σ : L2.St} {H' : Hp}, Pu (tOp (rI CPow fun i j => .int (i ^ j.toNat)) (tC (.int 10)) (tC (.int 60))) σ H' (.int (10 ^ 60)) := pu_pow pu_c pu_c ⟨by decide, by decide, by decide⟩
    have P58 : ∀ {σ : L2.St} {H' : Hp}, Pu (tOp (rI CPow fun i j => .int (i ^ j.toNat)) (tC (.int 10)) (tC (.int 58))) σ H' (.int (10 ^ 58)) := pu_pow pu_c pu_c ⟨by decide, by decide, by decide⟩
    have P5 : ∀ {σ : L2.St} {H' : Hp}, Pu (tOp (rI CPow fun i j => .int (i ^ j.toNat)) (tC (.int 10)) (tC (.int 5))) σ H' (.int (10 ^ 5)) := pu_pow pu_c pu_c ⟨by decide, by decide, by decide⟩
    have B60 : Bd 9000 (10 ^ 60 : Int) := by unfold Bd; decide +kernel
    have B58 : Bd 9000 (10 ^ 58 : Int) := by unfold Bd; decide +kernel
    refine st_setG (gv_draw hh (pa_c (pu_v rfl) (pa_c pu_c pa_n)) (by decide) Bd.small) ?_
    rintro _ H1 ⟨⟨w, rfl, _, _⟩, hh1, s1⟩
    refine st_setG (gv_draw hh1 (pa_c (pu_v rfl) (pa_c pu_c pa_n)) (by decide) Bd.small) ?_
    rintro _ H2 ⟨⟨n, rfl, n0, n1⟩, hh2, s2⟩
    have s12 := s1.trans s2
    have n60 : n < 10 ^ 60 := by omega
    refine st_ifSet (R := fun v H' => ∃ n : Int, v = .int n ∧ 0 ≤ n ∧ n < 10 ^ 60 ∧ HandAt H' hd sc ∧ SameB hd H H') (v0 := .int n) (pt_t (pu_eqI (pu_v rfl) pu_c)) (fun _ => (gv_draw hh2 (pa_c (pu_v rfl) (pa_c P60 pa_n)) (by decide) B60).imp fun v H' ⟨⟨m, e, m0, m1⟩, a, s⟩ => ⟨m, e, m0, m1, a, s12.trans s⟩) rfl (fun _ => ⟨n, rfl, n0, n60, hh2, s12⟩) ?_
    rintro _ H3 ⟨n3, rfl, a0, a1, hh3, s3⟩
    refine st_ifSet (R := fun v H' => ∃ n : Int, v = .int n ∧ 0 ≤ n ∧ n < 10 ^ 60 ∧ HandAt H' hd sc ∧ SameB hd H H') (v0 := .int n3) (pt_t (pu_eqI (pu_v rfl) pu_c)) (fun _ => (pu_sub (pu_sub P60 pu_c) (pu_v rfl)).gv' ⟨_, rfl, by omega, by omega, hh3, s3⟩) rfl (fun _ => ⟨n3, rfl, a0, a1, hh3, s3⟩) ?_
    rintro _ H4 ⟨n4, rfl, c0, c1, hh4, s4⟩
    refine st_ifSet (R := fun v H' => ∃ n : Int, v = .int n ∧ 0 ≤ n ∧ n < 10 ^ 60 ∧ HandAt H' hd sc ∧ SameB hd H H') (v0 := .int n4) (pt_t (pu_eqI (pu_v rfl) pu_c)) (fun _ => fun Q q => ?_) rfl (fun _ => ⟨n4, rfl, c0, c1, hh4, s4⟩) ?_
    · refine (pu_sub P60 pu_c) _ (pu_c (v := .int 1) _ (gv_draw hh4 (pa_c (pu_v rfl) (pa_c P58 pa_n)) (by decide) B58 _ ?_))
      rintro _ H5 ⟨⟨m, rfl, m0, m1⟩, hh5, s5⟩
      have bm : Bd 9000 (1 + m) := by
        unfold Bd
        have : (10 : Int) ^ 58 < 2 ^ 200 := by decide +kernel
        have h2 : (2 : Nat) ^ 200 < 2 ^ 9000 := Nat.pow_lt_pow_right (by decide) (by decide)
        omega
      refine ⟨1, m, rfl, rfl, 10 ^ 60 - 1, 1 + m, rfl, rfl, ⟨by omega, bm⟩, q _ _ ⟨_, rfl, ?_, ?_, hh5, s4.trans s5⟩⟩
      · rw [Int.fdiv_eq_ediv_of_nonneg _ (by omega)]
        exact Int.ediv_nonneg (by decide) (by omega)
      · rw [Int.fdiv_eq_ediv_of_nonneg _ (by omega)]
        exact Int.lt_of_le_of_lt (Int.ediv_le_self _ (by decide)) (by decide)
    rintro _ H5 ⟨n5, rfl, d0, d1, hh5, s5⟩
    refine st_ifSet (R := fun v H' => ∃ n : Int, v = .int n ∧ 0 ≤ n ∧ n < 10 ^ 60 ∧ HandAt H' hd sc ∧ SameB hd H H') (v0 := .int n5) (pt_t (pu_eqI (pu_v rfl) pu_c)) (fun _ => (gv_draw hh5 (pa_c (pu_v rfl) (pa_c P5 pa_n)) (by decide) (Bd.small (by decide))).imp fun v H' ⟨⟨m, e, m0, m1⟩, a, s⟩ => ⟨m, e, m0, by omega, a, s5.trans s⟩) rfl (fun _ => ⟨n5, rfl, d0, d1, hh5, s5⟩) ?_
    rintro _ H6 ⟨n6, rfl, e0, e1, hh6, s6⟩
    refine st_ifRG (RB := fun _ H' => HandAt H' hd sc ∧ SameB hd H H') (fun σ' H' => HandAt H' hd sc ∧ SameB hd H H' ∧ ∃ m : Int, m.natAbs < 10 ^ 60 ∧ σ' = [some (.ref hd), some (.int w), some (.int m)]) (fun Q q => ?_) (fun H7 r D' q _ => ?_) (fun H7 r => ⟨r.1, r.2, n6, by omega, rfl⟩) ?_
    · refine gv_draw hh6 (pa_c (pu_v rfl) (pa_c pu_c pa_n)) (by decide) Bd.small _ ?_
      rintro _ H7 ⟨⟨m, rfl, _, _⟩, hh7, s7⟩
      exact ⟨rfl, _, rfl, q _ _ ⟨hh7, s6.trans s7⟩⟩
    · exact st_set1 (pu_neg (pu_v rfl)) (q _ _ ⟨r.1, r.2, -n6, by omega, rfl⟩)
    rintro _ H7 ⟨hh7, s7, m, hm, rfl⟩
    exact st_ret (pu_v rfl) (k m H7 hm hh7 s7)
def sp_l_name : Sp := fun vs H Q _ => ∃ hd sc, vs = [.ref hd] ∧ HandAt H hd sc ∧ ∀ (x : Str) H', nameOk x = true → HandAt H' hd sc → SameB hd H H' → Q (.str x) H'
theorem gv_name {σ : L2.St} {H : Hp} {hd sc : Addr} {t : TA} (hh : HandAt H hd sc) (ha : PuA t σ H [.ref hd]) : Gv (tCall sp_l_name [] E0 t) σ H (fun v H' => (∃ x, v = .str x ∧ nameOk x = true) ∧ HandAt H' hd sc ∧ SameB hd H H') :=
  gv_call ha fun Q f => ⟨hd, sc, rfl, hh, fun n H' hb a s => f _ _ ⟨⟨n, rfl, hb⟩, a, s⟩⟩
/-- 1 + draw(hand, m) -/
theorem gv_draw1 {σ : L2.St} {H : Hp} {hd sc : Addr} {t : TA} {m : Int} (hh : HandAt H hd sc) (ha : PuA t σ H [.ref hd, .int m]) (h0 : 0 < m) (hb : Bd 9000 m) : Gv (tOp (rI0 fun i j => .int (i + j)) (tC (.int 1)) (tCall sp_l_draw [] E0 t)) σ H (fun v H' => (∃ n : Int, v = .int n ∧ 0 < n ∧ n ≤ m) ∧ HandAt H' hd sc ∧ SameB hd H H') := fun Q f => pu_c (v := .int 1) _ (gv_draw hh ha h0 hb _ fun v H' ⟨⟨n, e, n0, n1⟩, a, s⟩ => by
  subst e
  exact ⟨1, n, rfl, rfl, f _ _ ⟨⟨_, rfl, by omega, by omega⟩, a, s⟩⟩)
def tenWords : List Str := [Str.ofString "in", Str.ofString "no", Str.ofString "both", Str.ofString "any", Str.ofString "round", Str.ofString "least", Str.ofString "inn", Str.ofString "noboth", Str.ofString "a", Str.ofString "leastest"]
theorem sc_l_name : FnScope ["_law_hand_here", "_law_words", "_law_letters"] ["_law_hand_here"] (defScope s_l_name) := ⟨rfl, rfl, rfl, by decide +kernel, rfl, by decide +kernel, by decide +kernel⟩
theorem ok_l_name (T : Txt K mg t w) : FnOk P w K mg base CX0 4 t.f_l_name t.d_l_name ["_law_hand_here"] sp_l_name := by
  refine T.l_name.F.ok (k := 3) sc_l_name (fun vs H Q E h => ?_) (fun cdv A outer s H vs Q E hr h => ?_)
  · obtain ⟨hd, sc, rfl, _⟩ := h
    rfl
  · obtain ⟨hd, sc, rfl, hh, k⟩ := h
    refine ⟨_, (@pss_cons _ _ _ _ _ (@ps_set _ _ 1 _ _ _ _ sc_l_name.nd rfl (Or.inl rfl) (@pe_lst _ _ _ _ (@pa_cons _ _ _ _ _ (@pe_str _ _ _ _) (@pa_cons _ _ _ _ _ (@pe_str _ _ _ _) (@pa_cons _ _ _ _ _ (@pe_str _ _ _ _) (@pa_cons _ _ _ _ _ (@pe_str _ _ _ _) (@pa_cons _ _ _ _ _ (@pe_str _ _ _ _) (@pa_cons _ _ _ _ _ (@pe_str _ _ _ _) (@pa_cons _ _ _ _ _ (@pe_str _ _ _ _) (@pa_cons _ _ _ _ _ (@pe_str _ _ _ _) (@pa_cons _ _ _ _ _ (@pe_str _ _ _ _) (@pa_cons _ _ _ _ _ (@pe_str _ _ _ _) (@pa_nil _) star_con) star_con) star_con) star_con) star_con) star_con) star_con) star_con) star_con) star_con)) (by rfl) (by first | exact .inl rfl | exact .inr rfl | assumption)) (@pss_cons _ _ _ _ _ (@ps_if _ _ _ _ _ _ _ _ (@pt_cmpR _ _ _ _ _ _ _ _ op_eq (@pe_fn _ _ _ _ _ _ _ _ _ _ _ _ _ _ T.l_draw (ok_l_draw T) hr (by decide) (@pa_cons _ _ _ _ _ (pv 0) (@pa_cons _ _ _ _ _ (@pe_int _ _ _ _) (@pa_nil _) star_con) star_name) (by rfl) (by decide) (by rfl) (by rfl)) (@pe_int _ _ _ _) (nomark _)) (@pss_one _ _ _ (@ps_ret _ _ _ _ (@pe_ix _ _ _ _ _ _ _ ix_list (pv 1) (@pe_fn _ _ _ _ _ _ _ _ _ _ _ _ _ _ T.l_draw (ok_l_draw T) hr (by decide) (@pa_cons _ _ _ _ _ (pv 0) (@pa_cons _ _ _ _ _ (@pe_int _ _ _ _) (@pa_nil _) star_con) star_name) (by rfl) (by decide) (by rfl) (by rfl)) (fun _ _ => rfl)))) (@pss_nil _)) (@pss_cons _ _ _ _ _ (@ps_set _ _ 2 _ _ _ _ sc_l_name.nd rfl (Or.inr rfl) (@pe_str _ _ _ _) (by rfl) (by first | exact .inl rfl | exact .inr rfl | assumption)) (@pss_one _ _ _ (@ps_ret _ _ _ _ (@pe_bm _ _ _ _ _ _ _ _ _ _ _ _ PySem.F.plainAttrs_str PySem.F.slot_str_join PySem.F.type_str_join mt_join (@pe_str _ _ _ _) (@pa_cons _ _ _ _ _ (@pe_lcompD _ "_law_k" "_law_letters" "_law_hand_here" _ _ _ _ _ _ _ _ _ 2 0 rfl (@pi_range1 _ _ _ _ _ _ rfl T.b_range (@pa_cons _ _ _ _ _ (@pe_op _ _ _ _ _ _ _ _ op_add (@pe_int _ _ _ _) (@pe_fn _ _ _ _ _ _ _ _ _ _ _ _ _ _ T.l_draw (ok_l_draw T) hr (by decide) (@pa_cons _ _ _ _ _ (pv 0) (@pa_cons _ _ _ _ _ (@pe_int _ _ _ _) (@pa_nil _) star_con) star_name) (by rfl) (by decide) (by rfl) (by rfl))) (@pa_nil _) star_bin) (by rfl)) (fun _ _ _ _ => pg_name (i := 0) (show (["_law_k", "_law_letters", "_law_hand_here"] : List Str).Nodup from by decide +kernel) rfl (Or.inl rfl) (.inr rfl)) (fun _ _ _ _ => (@pe_ix _ _ _ _ _ _ _ ix_str (pv 1) (@pe_fn _ _ _ _ _ _ _ _ _ _ _ _ _ _ T.l_draw (ok_l_draw T) hr (by decide) (@pa_cons _ _ _ _ _ (pv 2) (@pa_cons _ _ _ _ _ (@pe_int _ _ _ _) (@pa_nil _) star_con) star_name) (by rfl) (by decide) (by rfl) (by rfl)) (fun _ _ => rfl))) rfl rfl (by decide +kernel) (by decide +kernel) (And.intro rfl (And.intro rfl (And.intro rfl rfl))) (And.intro rfl (And.intro rfl (And.intro rfl rfl))) rfl (by intro _; rfl)) (@pa_nil _) star_lc) (by rfl) (by rfl) (by rfl) (by rfl) (by rfl))))))), ?_⟩
    refine st_setG (gv_lst (vs := tenWords.map V.str) (pa_c pu_c (pa_c pu_c (pa_c pu_c (pa_c pu_c (pa_c pu_c (pa_c pu_c (pa_c pu_c (pa_c pu_c (pa_c pu_c (pa_c pu_c pa_n)))))))))) (by decide)) ?_
    rintro _ _ ⟨lw, hlw, rfl, rfl⟩
    have s1 : Same H (upd H lw (.lst (tenWords.map V.str))) := Same.upd hlw
    have hh1 := hh.same s1
    have nw := hh.fresh hlw
    have w1 : (upd H lw (.lst (tenWords.map V.str))) lw = some (.lst (tenWords.map V.str)) := upd_same
    revert s1 hh1 w1
    generalize upd H lw (.lst (tenWords.map V.str)) = H1
    intro s1 hh1 w1
    refine st_ifNG (R := fun _ H' => HandAt H' hd sc ∧ SameB hd H1 H') (fun Q q => ?_) (fun H2 r => ?_) (fun H2 r => ?_)
    · refine gv_draw hh1 (pa_c (pu_v rfl) (pa_c pu_c pa_n)) (by decide) Bd.small _ ?_
      rintro _ H2 ⟨⟨m, rfl, _, _⟩, hh2, s2⟩
      exact ⟨rfl, _, rfl, q _ _ ⟨hh2, s2⟩⟩
    · refine st_retG (R := fun v H' => ∃ x, v = .str x ∧ nameOk x = true ∧ HandAt H' hd sc ∧ SameB hd H H') (fun Q q => ?_) fun v H' z => by obtain ⟨x, rfl, a, b, c⟩ := z; exact k x H' a b c
      refine pu_v (v := .ref lw) rfl _ (gv_draw r.1 (pa_c (pu_v rfl) (pa_c pu_c pa_n)) (by decide) Bd.small _ ?_)
      rintro _ H3 ⟨⟨m, rfl, m0, m1⟩, hh3, s3⟩
      have w3 := s3 _ _ (r.2 _ _ w1 nw.1) nw.1
      have hm : m.toNat < tenWords.length := by show m.toNat < 10; omega
      have hat : atI (tenWords.map V.str) m = some (.str tenWords[m.toNat]) := by
        have := atI_nat (xs := tenWords.map V.str) (j := m.toNat) (v := .str tenWords[m.toNat]) (by simp [hm])
        rwa [show ((m.toNat : Nat) : Int) = m by omega] at this
      have good : ∀ x ∈ tenWords, nameOk x = true := by decide +kernel
      exact ⟨lw, _, m, _, rfl, rfl, SqL.of w3, hat, q _ _ ⟨_, rfl, good _ (List.getElem_mem hm), hh3, (s1.b.trans r.2).trans s3⟩⟩
    · refine st_set pu_c ?_
      refine st_retG (R := fun v H' => ∃ x, v = .str x ∧ nameOk x = true ∧ HandAt H' hd sc ∧ SameB hd H H') (gv_join (R := fun v H' => ∃ (D : Addr) (cs : List Nat), v = .ref D ∧ 1 ≤ cs.length ∧ cs.length ≤ 8 ∧ (∀ c ∈ cs, c ∈ letters.cps.toList) ∧ H' D = some (.lst ((cs.map fun c => (⟨#[c]⟩ : Str)).map V.str)) ∧ HandAt H' hd sc ∧ SameB hd H H') (fun _ => pu_c) (gv_compRG (ga_cons (gv_draw1 (m := 8) r.1 (pa_c (pu_v rfl) (pa_c pu_c pa_n)) (by decide) Bd.small) fun _ _ _ => ga_nil) ?_) ?_) fun v H' z => by obtain ⟨x, rfl, a, b, c⟩ := z; exact k x H' a b c
      · rintro _ H3 ⟨_, _, r', rfl, ⟨⟨z, rfl, z0, z1⟩, hh3, s3⟩, rfl, rfl⟩
        obtain ⟨ys3, hys3⟩ := hh3.ls
        refine ⟨z, rfl, by omega, by omega, (gv_compR (fun D i ys H' => HandAt H' hd sc ∧ SameB hd H3 H' ∧ H' D = some (.lst ys) ∧ ∃ cs : List Nat, cs.length = i ∧ ys = (cs.map fun c => (⟨#[c]⟩ : Str)).map V.str ∧ ∀ c ∈ cs, c ∈ letters.cps.toList) (pa_c pu_c pa_n) (by omega) (by omega) (fun x => (KeepS.refl _).cons (some x)) (fun D hD => ⟨hh3.same (Same.upd hD), (Same.upd hD).b, upd_same, [], rfl, rfl, fun f hf => (nomatch hf)⟩) ?_).imp ?_⟩
        · rintro D i' ys H9 hD hi' ⟨hh9, s9, hD9, cs, hcl, rfl, hcs⟩
          have nD : D ≠ hd := fun z => by rw [z, hys3] at hD; cases hD
          refine ⟨small1000 (by rw [List.length_map, List.length_map]; omega), fun Q q => ?_⟩
          refine pu_v (v := .str (Str.ofString "abcdefghijklmnopqrstuvwxyz")) rfl _ (gv_draw hh9 (pa_c (pu_v rfl) (pa_c pu_c pa_n)) (by decide) Bd.small _ ?_)
          rintro _ H10 ⟨⟨m, rfl, m0, m1⟩, hh10, s10⟩
          have l26 : letters.cps.toList.length = 26 := by decide +kernel
          have hm : m.toNat < letters.cps.toList.length := by rw [l26]; omega
          have hat : atI letters.cps.toList m = some letters.cps.toList[m.toNat] := by
            have := atI_nat (xs := letters.cps.toList) (j := m.toNat) (v := letters.cps.toList[m.toNat]) (List.getElem?_eq_getElem hm)
            rwa [show ((m.toNat : Nat) : Int) = m by omega] at this
          have hD' := s10 _ _ hD9 nD
          refine ⟨_, m, _, rfl, rfl, by decide +kernel, hat, q _ _ ⟨hD', hh10.upd ⟨nD, fun z => ?_⟩, ?_, upd_same, cs ++ [letters.cps.toList[m.toNat]], by simp [hcl], by simp, ?_⟩⟩
          · obtain ⟨ns, i, b, c, p, q', g1, g2, _⟩ := hh3
            rw [z, g2] at hD
            cases hD
          · intro b o e n
            rw [upd_ne (ne_of_none e hD)]
            exact (s9.trans s10) b o e n
          · intro c hc
            rcases List.mem_append.mp hc with hc | hc
            · exact hcs c hc
            · rw [List.mem_singleton.mp hc]
              exact List.getElem_mem hm
        · rintro v H9 ⟨D, ys, hD, rfl, hh9, s9, hD9, cs, hcl, rfl, hcs⟩
          exact ⟨D, cs, rfl, by omega, by omega, hcs, hD9, hh9, ((s1.b.trans r.2).trans s3).trans s9⟩
      · rintro _ H3 ⟨D, cs, rfl, c1, c8, hcs, hD, hh3, s3⟩
        refine ⟨D, _, rfl, hD, joinOk_of (b := 1) (m := 8) (fun t ht => ?_) (by rw [List.length_map]; exact c8) (by decide +kernel), _, rfl, ?_, hh3, s3⟩
        · obtain ⟨c, _, rfl⟩ := List.mem_map.mp ht
          exact Nat.le_refl 1
        · have e := join_signs cs
          unfold nameOk
          rw [← L2.len_list, e, decide_eq_true c1, decide_eq_true c8]
          simpa using hcs
def sp_l_wish (n : Nat) : Sp := fun vs H Q _ => ∃ hd sc, vs = [.ref hd, .int (n : Int)] ∧ 1 ≤ n ∧ HandAt H hd sc ∧ ∀ v (u : Wi) H', DAt hd H' v u.d → u.names → u.nums small → u.deep ≤ n → HandAt H' hd sc → SameB hd H H' → Q v H'
theorem sc_l_wish : FnScope ["_law_hand_here", "_law_deep_here", "_law_way", "_law_name_here", "_law_one"] ["_law_hand_here", "_law_deep_here"] (defScope s_l_wish) := ⟨rfl, rfl, rfl, by decide +kernel, rfl, by decide +kernel, by decide +kernel⟩
theorem gv_wish {n : Nat} {σ : L2.St} {H : Hp} {hd sc : Addr} {t : TA} (hn : 1 ≤ n) (hh : HandAt H hd sc) (ha : PuA t σ H [.ref hd, .int (n : Int)]) : Gv (tCall (sp_l_wish n) [] E0 t) σ H (fun v H' => (∃ u : Wi, DAt hd H' v u.d ∧ u.names ∧ u.nums small ∧ u.deep ≤ n) ∧ HandAt H' hd sc ∧ SameB hd H H') :=
  gv_call ha fun Q f => ⟨hd, sc, rfl, hn, hh, fun v u H' h1 h2 h3 h4 a s => f _ _ ⟨⟨u, h1, h2, h3, h4⟩, a, s⟩⟩
theorem nAsc {x : Str} (h : nameOk x = true) : (∀ c ∈ x.cps.toList, c < 128) ∧ x.length ≤ 1000 := ⟨name_ascii h, Nat.le_trans (name_len h).2 (by decide)⟩
/-- ['both', 'any'][way % 2] -/
theorem gv_two {K : PySem.W.Frag} {σ : L2.St} {H : Hp} {m : Int} (h2 : σ[2]? = some (some (.int m))) : Gv (tOp (rIxL K) (tLst (tCons (tC (.str (Str.ofString "both"))) (tCons (tC (.str (Str.ofString "any"))) tNil))) (tOp (rI (fun _ j => j ≠ 0) fun i j => .int (i.fmod j)) (tVar 2) (tC (.int 2)))) σ H (fun v H' => ∃ b : Bool, v = .str (if b then Str.ofString "any" else Str.ofString "both") ∧ Same H H') := by
  intro Q q
  refine gv_lst (pa_c (pu_c (v := .str (Str.ofString "both"))) (pa_c (pu_c (v := .str (Str.ofString "any"))) pa_n)) len2 _ ?_
  rintro _ _ ⟨p, hp, rfl, rfl⟩
  have e : m.fmod 2 = m % 2 := Int.fmod_eq_emod_of_nonneg _ (by decide)
  have hm2 : m.fmod 2 = 0 ∨ m.fmod 2 = 1 := by omega
  have hix : ∃ b : Bool, atI [V.str (Str.ofString "both"), V.str (Str.ofString "any")] (m.fmod 2) = some (.str (if b then Str.ofString "any" else Str.ofString "both")) := by
    rcases hm2 with z | z
    · exact ⟨false, by rw [z]; rfl⟩
    · exact ⟨true, by rw [z]; rfl⟩
  obtain ⟨b, hix⟩ := hix
  exact (pu_mod (pu_v h2) (pu_c (v := .int 2)) (by decide)) _ ⟨p, _, _, _, rfl, rfl, SqL.of upd_same, hix, q _ _ ⟨b, rfl, Same.upd hp⟩⟩
theorem okA_wish (T : Txt K mg t w) {n k : Nat} (GP : FnOk P w K mg base CX0 k t.f_l_wish t.d_l_wish ["_law_hand_here", "_law_deep_here"] (sp_l_wish n)) (hk : 8 ≤ k) : FnOk P w K mg base CX0 (k + 1) t.f_l_wish t.d_l_wish ["_law_hand_here", "_law_deep_here"] (sp_l_wish (n + 1)) := by
  have ok_l_wish := fun (_ : Txt K mg t w) => GP
  refine T.l_wish.F.ok (k := k) sc_l_wish (fun vs H Q E h => ?_) (fun cdv A outer s H vs Q E hr h => ?_)
  · obtain ⟨hd, sc, rfl, _⟩ := h
    rfl
  · obtain ⟨hd, sc, rfl, _, hh, k⟩ := h
    refine ⟨_, (@pss_cons _ _ _ _ _ (@ps_set _ _ 2 _ _ _ _ sc_l_wish.nd rfl (Or.inl rfl) (@pe_fn _ _ _ _ _ _ _ _ _ _ _ _ _ _ T.l_draw (ok_l_draw T) hr (by omega) (@pa_cons _ _ _ _ _ (pv 0) (@pa_cons _ _ _ _ _ (@pe_int _ _ _ _) (@pa_nil _) star_con) star_name) (by rfl) (by decide) (by rfl) (by rfl)) (by rfl) (by first | exact .inl rfl | exact .inr rfl | assumption)) (@pss_cons _ _ _ _ _ (@ps_if _ _ _ _ _ _ _ _ (@pt_cmpR _ _ _ _ _ _ _ _ op_eq (pv 1) (@pe_int _ _ _ _) (nomark _)) (@pss_one _ _ _ (@ps_set _ _ 2 _ _ _ _ sc_l_wish.nd rfl (Or.inl rfl) (@pe_op _ _ _ _ _ _ _ _ op_modN (pv 2) (@pe_int _ _ _ _)) (by rfl) (by first | exact .inl rfl | exact .inr rfl | assumption))) (@pss_nil _)) (@pss_cons _ _ _ _ _ (@ps_if _ _ _ _ _ _ _ _ (@pt_cmpR _ _ _ _ _ _ _ _ op_eq (pv 2) (@pe_int _ _ _ _) (nomark _)) (@pss_one _ _ _ (@ps_ret _ _ _ _ (@pe_tup _ _ _ _ _ (@pa_cons _ _ _ _ _ (@pe_str _ _ _ _) (@pa_cons _ _ _ _ _ (@pe_fn _ _ _ _ _ _ _ _ _ _ _ _ _ _ T.l_name (ok_l_name T) hr (by omega) (@pa_cons _ _ _ _ _ (pv 0) (@pa_nil _) star_name) (by rfl) (by decide) (by rfl) (by rfl)) (@pa_nil _) star_call) star_con)))) (@pss_nil _)) (@pss_cons _ _ _ _ _ (@ps_if _ _ _ _ _ _ _ _ (@pt_cmpR _ _ _ _ _ _ _ _ op_eq (pv 2) (@pe_int _ _ _ _) (nomark _)) (@pss_cons _ _ _ _ _ (@ps_set _ _ 3 _ _ _ _ sc_l_wish.nd rfl (Or.inl rfl) (@pe_fn _ _ _ _ _ _ _ _ _ _ _ _ _ _ T.l_name (ok_l_name T) hr (by omega) (@pa_cons _ _ _ _ _ (pv 0) (@pa_nil _) star_name) (by rfl) (by decide) (by rfl) (by rfl)) (by rfl) (by first | exact .inl rfl | exact .inr rfl | assumption)) (@pss_one _ _ _ (@ps_ret _ _ _ _ (@pe_tup _ _ _ _ _ (@pa_cons _ _ _ _ _ (@pe_str _ _ _ _) (@pa_cons _ _ _ _ _ (pv 3) (@pa_cons _ _ _ _ _ (@pe_fn _ _ _ _ _ _ _ _ _ _ _ _ _ _ T.l_number (ok_l_number T) hr (by omega) (@pa_cons _ _ _ _ _ (pv 0) (@pa_nil _) star_name) (by rfl) (by decide) (by rfl) (by rfl)) (@pa_nil _) star_call) star_name) star_con))))) (@pss_nil _)) (@pss_cons _ _ _ _ _ (@ps_if _ _ _ _ _ _ _ _ (@pt_cmpR _ _ _ _ _ _ _ _ op_eq (pv 2) (@pe_int _ _ _ _) (nomark _)) (@pss_one _ _ _ (@ps_ret _ _ _ _ (@pe_tup _ _ _ _ _ (@pa_cons _ _ _ _ _ (@pe_str _ _ _ _) (@pa_cons _ _ _ _ _ (@pe_fn _ _ _ _ _ _ _ _ _ _ _ _ _ _ T.l_number (ok_l_number T) hr (by omega) (@pa_cons _ _ _ _ _ (pv 0) (@pa_nil _) star_name) (by rfl) (by decide) (by rfl) (by rfl)) (@pa_nil _) star_call) star_con)))) (@pss_nil _)) (@pss_cons _ _ _ _ _ (@ps_set _ _ 4 _ _ _ _ sc_l_wish.nd rfl (Or.inl rfl) (@pe_fn _ _ _ _ _ _ _ _ _ _ _ _ _ _ T.l_wish (ok_l_wish T) hr (by omega) (@pa_cons _ _ _ _ _ (pv 0) (@pa_cons _ _ _ _ _ (@pe_op _ _ _ _ _ _ _ _ op_sub (pv 1) (@pe_int _ _ _ _)) (@pa_nil _) star_bin) star_name) (by rfl) (by decide) (by rfl) (by rfl)) (by rfl) (by first | exact .inl rfl | exact .inr rfl | assumption)) (@pss_cons _ _ _ _ _ (@ps_if _ _ _ _ _ _ _ _ (@pt_cmpR _ _ _ _ _ _ _ _ op_eq (pv 2) (@pe_int _ _ _ _) (nomark _)) (@pss_one _ _ _ (@ps_ret _ _ _ _ (@pe_tup _ _ _ _ _ (@pa_cons _ _ _ _ _ (@pe_str _ _ _ _) (@pa_cons _ _ _ _ _ (pv 4) (@pa_nil _) star_name) star_con)))) (@pss_nil _)) (@pss_one _ _ _ (@ps_ret _ _ _ _ (@pe_tup _ _ _ _ _ (@pa_cons _ _ _ _ _ (@pe_ix _ _ _ _ _ _ _ ix_list (@pe_lst _ _ _ _ (@pa_cons _ _ _ _ _ (@pe_str _ _ _ _) (@pa_cons _ _ _ _ _ (@pe_str _ _ _ _) (@pa_nil _) star_con) star_con)) (@pe_op _ _ _ _ _ _ _ _ op_modN (pv 2) (@pe_int _ _ _ _)) (fun _ _ => rfl)) (@pa_cons _ _ _ _ _ (pv 4) (@pa_cons _ _ _ _ _ (@pe_fn _ _ _ _ _ _ _ _ _ _ _ _ _ _ T.l_wish (ok_l_wish T) hr (by omega) (@pa_cons _ _ _ _ _ (pv 0) (@pa_cons _ _ _ _ _ (@pe_op _ _ _ _ _ _ _ _ op_sub (pv 1) (@pe_int _ _ _ _)) (@pa_nil _) star_bin) star_name) (by rfl) (by decide) (by rfl) (by rfl)) (@pa_nil _) star_call) star_name) star_sub))))))))))), ?_⟩
    refine st_setG (gv_draw hh (pa_c (pu_v rfl) (pa_c pu_c pa_n)) (by decide) Bd.small) ?_
    rintro _ H1 ⟨⟨m0, rfl, m00, m01⟩, hh1, s1⟩
    refine st_ifSet (R := fun v H' => ∃ m : Int, v = .int m ∧ 0 ≤ m ∧ m < 8 ∧ (n = 0 → m < 3) ∧ H1 = H') (v0 := .int m0) (pt_t (pu_eqI (pu_v rfl) pu_c)) (fun _ => Pu.gv' (pu_mod (pu_v rfl) pu_c (by decide)) ⟨_, rfl, ?_⟩) rfl (fun e => ⟨m0, rfl, m00, m01, fun z => ?_, rfl⟩) ?_
    · have e : m0.fmod 3 = m0 % 3 := Int.fmod_eq_emod_of_nonneg _ (by decide)
      rw [e]
      refine ⟨Int.emod_nonneg _ (by decide), ?_, fun _ => Int.emod_lt_of_pos _ (by decide), rfl⟩
      have := Int.emod_lt_of_pos m0 (show (0 : Int) < 3 by decide)
      omega
    · have := of_decide_eq_false e
      exact absurd (by omega) this
    rintro _ _ ⟨m, rfl, b0, b1, b3, rfl⟩
    have fin : ∀ {v : V} {H' : Hp} (u : Wi), DAt hd H' v u.d → u.names → u.nums small → u.deep ≤ n + 1 → HandAt H' hd sc → SameB hd H1 H' → Q v H' := fun {v H'} u h1 h2 h3 h4 h5 h6 => k v u H' h1 h2 h3 h4 h5 (s1.trans h6)
    refine st_ifN (pt_t (pu_eqI (pu_v rfl) pu_c)) (fun _ => ?_) (fun c0 => ?_)
    · refine st_retG (R := fun v H' => Q v H') (gv_tupA (RA := fun vs H' => ∃ x, vs = [.str (Str.ofString "in"), .str x] ∧ nameOk x = true ∧ HandAt H' hd sc ∧ SameB hd H1 H') (fun Q2 q2 => pu_c (v := .str (Str.ofString "in")) _ (gv_name hh1 (pa_c (pu_v rfl) pa_n) _ fun v H' ⟨⟨x, e, nx⟩, a, s⟩ => by subst e; exact q2 _ _ ⟨x, rfl, nx, a, s⟩)) ?_) fun _ _ z => z
      rintro _ H2 ⟨x, rfl, nx, hh2, s2⟩
      exact ⟨len2, fun a ha => fin (.inn x) (.tup upd_same (.cons (.str _ (by decide +kernel)) (.cons (.str _ (nAsc nx)) .nil))) nx trivial (Nat.succ_le_succ (Nat.zero_le _)) (hh2.same (Same.upd ha)) (s2.trans (Same.upd ha).b)⟩
    refine st_ifN (pt_t (pu_eqI (pu_v rfl) pu_c)) (fun _ => ?_) (fun c1 => ?_)
    · refine st_setG (gv_name hh1 (pa_c (pu_v rfl) pa_n)) ?_
      rintro _ H2 ⟨⟨x, rfl, nx⟩, hh2, s2⟩
      refine st_retG (R := fun v H' => Q v H') (gv_tupA (RA := fun vs H' => ∃ z : Int, vs = [.str (Str.ofString "round"), .str x, .int z] ∧ small z ∧ HandAt H' hd sc ∧ SameB hd H1 H') (fun Q2 q2 => pu_c (v := .str (Str.ofString "round")) _ ((pu_v rfl : Pu (tVar 3) _ _ (.str x)) _ (gv_number hh2 (pa_c (pu_v rfl) pa_n) _ fun v H' ⟨⟨z, e, nz⟩, a, s⟩ => by subst e; exact q2 _ _ ⟨z, rfl, nz, a, s2.trans s⟩))) ?_) fun _ _ z => z
      rintro _ H3 ⟨z, rfl, nz, hh3, s3⟩
      exact ⟨len3, fun a ha => fin (.rnd x z) (.tup upd_same (.cons (.str _ (by decide +kernel)) (.cons (.str _ (nAsc nx)) (.cons (.int z) .nil)))) nx nz (Nat.succ_le_succ (Nat.zero_le _)) (hh3.same (Same.upd ha)) (s3.trans (Same.upd ha).b)⟩
    refine st_ifN (pt_t (pu_eqI (pu_v rfl) pu_c)) (fun _ => ?_) (fun c2 => ?_)
    · refine st_retG (R := fun v H' => Q v H') (gv_tupA (RA := fun vs H' => ∃ z : Int, vs = [.str (Str.ofString "least"), .int z] ∧ small z ∧ HandAt H' hd sc ∧ SameB hd H1 H') (fun Q2 q2 => pu_c (v := .str (Str.ofString "least")) _ (gv_number hh1 (pa_c (pu_v rfl) pa_n) _ fun v H' ⟨⟨z, e, nz⟩, a, s⟩ => by subst e; exact q2 _ _ ⟨z, rfl, nz, a, s⟩)) ?_) fun _ _ z => z
      rintro _ H3 ⟨z, rfl, nz, hh3, s3⟩
      exact ⟨len2, fun a ha => fin (.lst z) (.tup upd_same (.cons (.str _ (by decide +kernel)) (.cons (.int z) .nil))) trivial nz (Nat.succ_le_succ (Nat.zero_le _)) (hh3.same (Same.upd ha)) (s3.trans (Same.upd ha).b)⟩
    have hn : 1 ≤ n := by
      have c0 := of_decide_eq_false c0
      have c1 := of_decide_eq_false c1
      have c2 := of_decide_eq_false c2
      have : n = 0 → False := fun z => by
        have := b3 z
        omega
      omega
    have AR : ∀ {σ : L2.St} {H' : Hp}, σ[0]? = some (some (.ref hd)) → σ[1]? = some (some (.int ((n + 1 : Nat) : Int))) → PuA (tCons (tVar 0) (tCons (tOp (rI0 fun i j => .int (i - j)) (tVar 1) (tC (.int 1))) tNil)) σ H' [.ref hd, .int (n : Int)] := fun h0 h1 => pa_c (pu_v h0) (pa_c (pu_cast (pu_sub (pu_v h1) pu_c) (by congr 1; omega)) pa_n)
    refine st_setG (gv_wish hn hh1 (AR rfl rfl)) ?_
    rintro v H2 ⟨⟨u, hv, nu, ku, du⟩, hh2, s2⟩
    obtain ⟨ys2, hys2⟩ := hh2.ls
    refine st_ifN (pt_t (pu_eqI (pu_v rfl) pu_c)) (fun _ => ?_) (fun c3 => ?_)
    · refine st_retG (gv_tup (pa_c pu_c (pa_c (pu_v rfl) pa_n)) len2) ?_
      rintro _ _ ⟨a, ha, rfl, rfl⟩
      exact fin (.no u) (.tup upd_same (.cons (.str _ (by decide +kernel)) (.cons (hv.same (Same.upd ha)) .nil))) nu ku (Nat.succ_le_succ du) (hh2.same (Same.upd ha)) (s2.trans (Same.upd ha).b)
    refine st_retG (R := fun v H' => Q v H') (gv_tupA (RA := fun vs H' => ∃ (b : Bool) (v' : V) (u' : Wi), vs = [.str (if b then Str.ofString "any" else Str.ofString "both"), v, v'] ∧ DAt hd H' v u.d ∧ DAt hd H' v' u'.d ∧ u'.names ∧ u'.nums small ∧ u'.deep ≤ n ∧ HandAt H' hd sc ∧ SameB hd H1 H') (fun Q2 q2 => ?_) ?_) fun _ _ z => z
    · refine gv_two (m := m) rfl _ ?_
      rintro _ H3 ⟨b, rfl, s3⟩
      have hh3 := hh2.same s3
      refine (pu_v rfl : Pu (tVar 4) _ _ v) _ (gv_wish hn hh3 (AR rfl rfl) _ ?_)
      rintro v' H4 ⟨⟨u', hv', nu', ku', du'⟩, hh4, s4⟩
      exact q2 _ _ ⟨b, v', u', rfl, DAt.but (s3 _ _ hys2) s4 (hv.same s3), hv', nu', ku', du', hh4, (s2.trans s3.b).trans s4⟩
    · rintro _ H4 ⟨b, v', u', rfl, hv4, hv', nu', ku', du', hh4, s4⟩
      refine ⟨len3, fun a ha => ?_⟩
      cases b with
      | false => exact fin (.both u u') (.tup upd_same (.cons (.str _ (by decide +kernel)) (.cons (hv4.same (Same.upd ha)) (.cons (hv'.same (Same.upd ha)) .nil)))) ⟨nu, nu'⟩ ⟨ku, ku'⟩ (by simp only [Wi.deep]; omega) (hh4.same (Same.upd ha)) (s4.trans (Same.upd ha).b)
      | true => exact fin (.any u u') (.tup upd_same (.cons (.str _ (by decide +kernel)) (.cons (hv4.same (Same.upd ha)) (.cons (hv'.same (Same.upd ha)) .nil)))) ⟨nu, nu'⟩ ⟨ku, ku'⟩ (by simp only [Wi.deep]; omega) (hh4.same (Same.upd ha)) (s4.trans (Same.upd ha).b)
theorem okr_wish (T : Txt K mg t w) : ∀ n : Nat, FnOk P w K mg base CX0 (8 + n) t.f_l_wish t.d_l_wish ["_law_hand_here", "_law_deep_here"] (sp_l_wish n)
  | 0 => ((T.l_wish.F.okNo sc_l_wish).mono (by decide : 1 ≤ 8)).imp fun vs H Q E h => by
    obtain ⟨hd, sc, _, h1, _⟩ := h
    omega
  | n + 1 => (okA_wish T (okr_wish T n) (by omega)).mono (by omega)
def sp_l_wishA : Sp := fun vs H Q E => ∃ n : Nat, n ≤ 6 ∧ sp_l_wish n vs H Q E
theorem ok_l_wish (T : Txt K mg t w) : FnOk P w K mg base CX0 14 t.f_l_wish t.d_l_wish ["_law_hand_here", "_law_deep_here"] sp_l_wishA :=
  ⟨fun vs H Q E h => by
    obtain ⟨n, _, h⟩ := h
    exact (okr_wish (P := P) (w := w) (base := base) T n).len vs H Q E h, fun A outer s H args us vs Q E hr e b r h => by
    obtain ⟨n, hn, h⟩ := h
    exact ((okr_wish T n).mono (by omega : 8 + n ≤ 14)).run A outer s H args us vs Q E hr e b r h⟩
def sp_l_written (n : Nat) : Sp := fun vs H Q _ => ∃ hd v u, vs = [v] ∧ DAt hd H v (Wi.d u) ∧ u.deep ≤ n ∧ n ≤ 7 ∧ u.names ∧ u.nums (Bd 700) ∧ ∀ H', Same H H' → Q (.str u.text) H'
theorem sc_l_written : FnScope ["_law_wish_here", "_law_text", "_law_part"] ["_law_wish_here"] (defScope s_l_written) := ⟨rfl, rfl, rfl, by decide +kernel, rfl, by decide +kernel, by decide +kernel⟩
theorem wi_tup (u : Wi) : u.d.isTup = true := by cases u <;> rfl
theorem pa_len {n : Nat} {p : Pa} (hn : n ≤ 7) (h1 : p.deep ≤ n) (h2 : p.names) (h3 : p.nums (Bd 700)) : p.text.length ≤ 751 * 3 ^ 7 := by
  have p7 : 3 ^ n ≤ 3 ^ 7 := Nat.pow_le_pow_right (by decide) hn
  cases p with
  | nm s => exact Nat.le_trans (name_len h2).2 (by decide)
  | nb z => exact Nat.le_trans (tx_len4 h3) (by decide)
  | ws v => exact Nat.le_trans (Wi.text_len n v h1 h2 h3) (Nat.mul_le_mul_left _ p7)
theorem gv_addS {σ : L2.St} {H : Hp} {ta tb : TE} {x : Str} {R R' : V → Hp → Prop} (ha : Pu ta σ H (.str x)) (hb : Gv tb σ H R) (hr : ∀ v H', R v H' → ∃ y, v = .str y ∧ x.length + y.length ≤ sizeLine ∧ R' (.str (x ++ y)) H') :
    Gv (tOp (fun x y H Q => ∃ i j, x = .str i ∧ y = .str j ∧ i.length + j.length ≤ sizeLine ∧ Q (.str (i ++ j)) H) ta tb) σ H R' := fun Q q => ha _ (hb _ fun v H' r => by
  obtain ⟨y, rfl, h1, h2⟩ := hr v H' r
  exact ⟨x, y, rfl, rfl, h1, q _ _ h2⟩)
theorem okA_written (T : Txt K mg t w) {n k : Nat} (GP : FnOk P w K mg base CX0 k t.f_l_written t.d_l_written ["_law_wish_here"] (sp_l_written n)) (hk : 5 ≤ k) : FnOk P w K mg base CX0 (k + 1) t.f_l_written t.d_l_written ["_law_wish_here"] (sp_l_written (n + 1)) := by
  have ok_l_written := fun (_ : Txt K mg t w) => GP
  refine T.l_written.F.ok (k := k) sc_l_written (fun vs H Q E h => ?_) (fun cdv A outer s H vs Q E hr h => ?_)
  · obtain ⟨hd, v, u, rfl, _⟩ := h
    rfl
  · obtain ⟨hd, v, u, rfl, hv, dp, n7, nn, nk, k⟩ := h
    refine ⟨_, (@pss_cons _ _ _ _ _ (@ps_set _ _ 1 _ _ _ _ sc_l_written.nd rfl (Or.inl rfl) (@pe_ix _ _ _ _ _ _ _ ix_tup (pv 0) (@pe_int _ _ _ _) (fun _ _ => rfl)) (by rfl) (by first | exact .inl rfl | exact .inr rfl | assumption)) (@pss_cons _ _ _ _ _ (@ps_for _ _ _ _ _ _ _ _ PassesOwn.never rfl (@pi_tup _ _ _ _ (@pe_slice _ _ _ _ _ _ _ _ _ _ sl_tup (pv 0) (@po_some _ _ _ (@pe_int _ _ _ _)) (@po_none _))) (@pg_name _ _ 2 _ sc_l_written.nd rfl (Or.inl rfl) (by first | exact .inl rfl | exact .inr rfl | assumption)) (@pss_one _ _ _ (@ps_if _ _ _ _ _ _ _ _ (@pt_val _ _ _ (@pe_callB _ _ _ _ _ _ _ _ _ call_isinst (by rfl) T.b_isinstance PyProof.Rows.boot_isinstance (@pa_cons _ _ _ _ _ (pv 2) (@pa_cons _ _ _ _ _ (@pe_ty _ _ _ _ T.b_tuple PyProof.Rows.boot_tuple (by rfl) (by decide) (by decide)) (@pa_nil _) star_name) star_name) (by decide) (by decide) (by rfl) (by rfl)) (by intro _; rfl)) (@pss_one _ _ _ (@ps_set _ _ 1 _ _ _ _ sc_l_written.nd rfl (Or.inl rfl) (@pe_op _ _ _ _ _ _ _ _ op_add_str (@pe_op _ _ _ _ _ _ _ _ op_add_str (pv 1) (@pe_str _ _ _ _)) (@pe_fn _ _ _ _ _ _ _ _ _ _ _ _ _ _ T.l_written (ok_l_written T) hr (by omega) (@pa_cons _ _ _ _ _ (pv 2) (@pa_nil _) star_name) (by rfl) (by decide) (by rfl) (by rfl))) (by rfl) (by first | exact .inl rfl | exact .inr rfl | assumption))) (@pss_one _ _ _ (@ps_set _ _ 1 _ _ _ _ sc_l_written.nd rfl (Or.inl rfl) (@pe_op _ _ _ _ _ _ _ _ op_add_str (@pe_op _ _ _ _ _ _ _ _ op_add_str (pv 1) (@pe_str _ _ _ _)) (@pe_callTy _ _ _ _ _ _ _ _ _ call_strD (by rfl) T.b_str PyProof.Rows.boot_str (@pa_cons _ _ _ _ _ (pv 2) (@pa_nil _) star_name) (by decide) (by decide) (by rfl) (by rfl))) (by rfl) (by first | exact .inl rfl | exact .inr rfl | assumption))))) (by intro _; rfl)) (@pss_one _ _ _ (@ps_ret _ _ _ _ (pv 1))))), ?_⟩
    rw [u.d_eq] at hv
    cases hv with
    | @tup a xs ds h td =>
      cases td with
      | @cons x0 d0 xs ds h0 td =>
        cases h0 with
        | str _ hx =>
          have hlen := td.len
          rw [List.length_map] at hlen
          have p2 := u.parts_le
          have d1 := (u.deep_iff n).mp dp
          have n1 := u.names_iff.mp nn
          have k1 := (u.nums_iff _).mp nk
          have big : 16000000 ≤ sizeLine := by decide
          refine st_set (pu_ixT (pu_v rfl) pu_c (SqT.of h) at0) ?_
          refine st_tuplG (gv_tl (pu_v rfl) h) ?_
          rintro _ _ ⟨q0, hq0, rfl, rfl⟩
          have s0 : Same H (upd H q0 (.tup xs)) := Same.upd hq0
          have t0 : (upd H q0 (.tup xs)) q0 = some (.tup xs) := upd_same
          revert s0 t0
          generalize upd H q0 (.tup xs) = H0
          intro s0 t0
          refine st_tupl (K := K) (xs := xs) pu_c (fun i σ H' => Same H0 H' ∧ ∃ z : Option V, σ = [some (.ref a), some (.str (Str.join (Str.ofString " ") (u.word :: (u.parts.take i).map Pa.text))), z]) ⟨Same.rfl', none, rfl⟩ (fun i σ H' _ ⟨s', _⟩ => SqT.of (s' _ _ t0)) ?_ ?_
          · rintro i y σ H1 hy ⟨s1, z, rfl⟩
            obtain ⟨di, hdi, hy'⟩ := td.get hy
            rw [List.getElem?_map] at hdi
            cases hpi : u.parts[i]? with
            | none => rw [hpi] at hdi; cases hdi
            | some p =>
              rw [hpi] at hdi
              have e1 : p.d = di := Option.some.inj hdi
              subst e1
              have hm := List.mem_of_getElem? hpi
              have hy1 := hy'.same (s0.trans s1)
              have tk : (u.parts.take (i + 1)).map Pa.text = (u.parts.take i).map Pa.text ++ [p.text] := by rw [List.take_succ, hpi, List.map_append]; rfl
              have jn : Str.join (Str.ofString " ") (u.word :: (u.parts.take (i + 1)).map Pa.text) = Str.join (Str.ofString " ") (u.word :: (u.parts.take i).map Pa.text) ++ Str.ofString " " ++ p.text := by
                rw [tk, ← List.cons_append, join_app _ (by simp) (by simp)]
                rfl
              have pl := pa_len (by omega) (d1 p hm) (n1 p hm) (k1 p hm)
              have jl : (Str.join (Str.ofString " ") (u.word :: (u.parts.take i).map Pa.text)).length ≤ 3 * (751 * 3 ^ 7 + 1) := by
                have b1 : (Str.ofString " ").length = 1 := by decide +kernel
                have := join_len (sep := Str.ofString " ") (b := 751 * 3 ^ 7) (u.word :: (u.parts.take i).map Pa.text) (fun t ht => by
                  rcases List.mem_cons.mp ht with rfl | ht
                  · exact Nat.le_trans u.word_le (by decide)
                  · obtain ⟨p', hp', rfl⟩ := List.mem_map.mp ht
                    have hm' := List.mem_of_mem_take hp'
                    exact pa_len (by omega) (d1 p' hm') (n1 p' hm') (k1 p' hm'))
                rw [b1] at this
                refine Nat.le_trans this (Nat.mul_le_mul_right _ ?_)
                rw [List.length_cons, List.length_map, List.length_take]
                omega
              have b2 : 3 * (751 * 3 ^ 7 + 1) + 1 + 751 * 3 ^ 7 ≤ 16000000 := by decide
              have h1 : (Str.ofString " ").length = 1 := by decide +kernel
              have TX : ∀ {σ : L2.St} {H' : Hp}, σ[1]? = some (some (.str (Str.join (Str.ofString " ") (u.word :: (u.parts.take i).map Pa.text)))) → Pu (tOp (fun x y H Q => ∃ i j, x = .str i ∧ y = .str j ∧ i.length + j.length ≤ sizeLine ∧ Q (.str (i ++ j)) H) (tVar 1) (tC (.str (Str.ofString " ")))) σ H' (.str (Str.join (Str.ofString " ") (u.word :: (u.parts.take i).map Pa.text) ++ Str.ofString " ")) := fun h => pu_addS (pu_v h) pu_c (by omega)
              refine st_ifG1 (R := fun b H' => b = p.d.isTup ∧ H1 = H') (PuT.gt (pt_b (pu_isi (pa_c (pu_v rfl) (pa_c pu_c pa_n)) hy1.ty (kd_tup p.d))) ⟨rfl, rfl⟩) (fun H' e => ?_) (fun H' e => ?_)
              · obtain ⟨e, rfl⟩ := e
                cases p with
                | nm s => cases e
                | nb z => cases e
                | ws w' =>
                  have pl' : w'.text.length ≤ 751 * 3 ^ 7 := pl
                  refine st_setG1 (R := fun v H' => v = .str (Str.join (Str.ofString " ") (u.word :: (u.parts.take (i + 1)).map Pa.text)) ∧ Same H1 H') (gv_addS (R := fun v H' => v = .str w'.text ∧ Same H1 H') (TX rfl) (gv_call (pa_c (pu_v rfl) pa_n) fun Q q => ⟨hd, y, w', rfl, hy1, d1 _ hm, by omega, n1 _ hm, k1 _ hm, fun H' s => q _ _ ⟨rfl, s⟩⟩) ?_) ?_
                  · rintro _ H' ⟨rfl, s'⟩
                    exact ⟨_, rfl, by rw [app_len]; exact Nat.le_trans (by omega) (Nat.le_trans b2 big), by rw [jn]; rfl, s'⟩
                  · rintro _ H' ⟨rfl, s'⟩
                    exact ⟨s1.trans s', _, rfl⟩
              · obtain ⟨e, rfl⟩ := e
                refine st_set1 (v := .str (Str.join (Str.ofString " ") (u.word :: (u.parts.take (i + 1)).map Pa.text))) ?_ ⟨s1, _, rfl⟩
                rw [jn]
                refine pu_addS (TX rfl) ?_ (by rw [app_len]; omega)
                cases p with
                | nm s =>
                  cases hy1
                  exact fun Q q => (pa_c (pu_v rfl) pa_n : PuA (tCons (tVar 2) tNil) _ _ [.str s]) _ (.inr ⟨s, rfl, q⟩)
                | nb z =>
                  cases hy1
                  exact fun Q q => (pa_c (pu_v rfl) pa_n : PuA (tCons (tVar 2) tNil) _ _ [.int z]) _ (.inl ⟨z, rfl, bd_log (Bd.mono (k1 _ hm) (by decide)), q⟩)
                | ws w' =>
                  have := wi_tup w'
                  rw [show (Pa.ws w').d.isTup = w'.d.isTup from rfl, this] at e
                  cases e
          · rintro σ H1 ⟨s1, z, rfl⟩
            have e1 : Str.join (Str.ofString " ") (u.word :: (u.parts.take xs.length).map Pa.text) = u.text := by
              rw [hlen, List.take_length, ← u.text_eq]
            rw [e1]
            exact st_ret (pu_v rfl) (k _ (s0.trans s1))
theorem okr_written (T : Txt K mg t w) : ∀ n : Nat, FnOk P w K mg base CX0 (5 + n) t.f_l_written t.d_l_written ["_law_wish_here"] (sp_l_written n)
  | 0 => ((T.l_written.F.okNo sc_l_written).mono (by decide : 1 ≤ 5)).imp fun vs H Q E h => by
    obtain ⟨hd, v, u, _, _, dp, _⟩ := h
    have := u.deep_pos
    omega
  | n + 1 => (okA_written T (okr_written T n) (by omega)).mono (by omega)
theorem ok_l_written (T : Txt K mg t w) : FnOk P w K mg base CX0 12 t.f_l_written t.d_l_written ["_law_wish_here"] (sp_l_written 7) := okr_written T 7
def sp_l_deep (n : Nat) : Sp := fun vs H Q _ => ∃ hd v u, vs = [v] ∧ DAt hd H v (Wi.d u) ∧ u.deep ≤ n ∧ ∀ H', Same H H' → Q (.int (u.deep : Nat)) H'
theorem sc_l_deep : FnScope ["_law_wish_here", "_law_deep_here", "_law_part"] ["_law_wish_here"] (defScope s_l_deep) := ⟨rfl, rfl, rfl, by decide +kernel, rfl, by decide +kernel, by decide +kernel⟩
def deepL : List Pa → Nat
  | [] => 0
  | p :: r => max p.deep (deepL r)
theorem deepL_snoc (p : Pa) : ∀ (ps : List Pa), deepL (ps ++ [p]) = max (deepL ps) p.deep
  | [] => by simp [deepL]
  | q :: r => by
    rw [List.cons_append, deepL, deepL, deepL_snoc p r]
    omega
theorem deep_parts (u : Wi) : u.deep = deepL u.parts + 1 := by cases u <;> simp [Wi.deep, Wi.parts, deepL, Pa.deep]
theorem gv_max {σ : L2.St} {H : Hp} {ta tb : TE} {i : Int} {R R' : V → Hp → Prop} (ha : Pu ta σ H (.int i)) (hb : Gv tb σ H R) (hr : ∀ v H', R v H' → ∃ j : Int, v = .int j ∧ R' (.int (if j > i then j else i)) H') : Gv (tCB (fun xs H Q => ∃ i j, xs = [.int i, .int j] ∧ Q (.int (if j > i then j else i)) H) (tCons ta (tCons tb tNil))) σ H R' := by
  intro Q q
  show tCons ta (tCons tb tNil) σ H _
  exact ha _ (hb _ fun v H' r => by
    obtain ⟨j, rfl, h⟩ := hr v H' r
    exact ⟨i, j, rfl, q _ _ h⟩)
theorem okA_deep (T : Txt K mg t w) {n k : Nat} (GP : FnOk P w K mg base CX0 k t.f_l_deep t.d_l_deep ["_law_wish_here"] (sp_l_deep n)) (hk : 5 ≤ k) : FnOk P w K mg base CX0 (k + 1) t.f_l_deep t.d_l_deep ["_law_wish_here"] (sp_l_deep (n + 1)) := by
  have ok_l_deep := fun (_ : Txt K mg t w) => GP
  refine T.l_deep.F.ok (k := k) sc_l_deep (fun vs H Q E h => ?_) (fun cdv A outer s H vs Q E hr h => ?_)
  · obtain ⟨hd, v, u, rfl, _⟩ := h
    rfl
  · obtain ⟨hd, v, u, rfl, hv, dp, k⟩ := h
    refine ⟨_, (@pss_cons _ _ _ _ _ (@ps_set _ _ 1 _ _ _ _ sc_l_deep.nd rfl (Or.inl rfl) (@pe_int _ _ _ _) (by rfl) (by first | exact .inl rfl | exact .inr rfl | assumption)) (@pss_cons _ _ _ _ _ (@ps_for _ _ _ _ _ _ _ _ PassesOwn.never rfl (@pi_tup _ _ _ _ (@pe_slice _ _ _ _ _ _ _ _ _ _ sl_tup (pv 0) (@po_some _ _ _ (@pe_int _ _ _ _)) (@po_none _))) (@pg_name _ _ 2 _ sc_l_deep.nd rfl (Or.inl rfl) (by first | exact .inl rfl | exact .inr rfl | assumption)) (@pss_one _ _ _ (@ps_if _ _ _ _ _ _ _ _ (@pt_val _ _ _ (@pe_callB _ _ _ _ _ _ _ _ _ call_isinst (by rfl) T.b_isinstance PyProof.Rows.boot_isinstance (@pa_cons _ _ _ _ _ (pv 2) (@pa_cons _ _ _ _ _ (@pe_ty _ _ _ _ T.b_tuple PyProof.Rows.boot_tuple (by rfl) (by decide) (by decide)) (@pa_nil _) star_name) star_name) (by decide) (by decide) (by rfl) (by rfl)) (by intro _; rfl)) (@pss_one _ _ _ (@ps_set _ _ 1 _ _ _ _ sc_l_deep.nd rfl (Or.inl rfl) (@pe_callB _ _ _ _ _ _ _ _ _ (call_max2 rfl) (by rfl) T.b_max PyProof.Rows.boot_max (@pa_cons _ _ _ _ _ (pv 1) (@pa_cons _ _ _ _ _ (@pe_fn _ _ _ _ _ _ _ _ _ _ _ _ _ _ T.l_deep (ok_l_deep T) hr (by omega) (@pa_cons _ _ _ _ _ (pv 2) (@pa_nil _) star_name) (by rfl) (by decide) (by rfl) (by rfl)) (@pa_nil _) star_call) star_name) (by decide) (by decide) (by rfl) (by rfl)) (by rfl) (by first | exact .inl rfl | exact .inr rfl | assumption))) (@pss_nil _))) (by intro _; rfl)) (@pss_one _ _ _ (@ps_ret _ _ _ _ (@pe_op _ _ _ _ _ _ _ _ op_add (pv 1) (@pe_int _ _ _ _)))))), ?_⟩
    rw [u.d_eq] at hv
    cases hv with
    | @tup a xs ds h td =>
      cases td with
      | @cons x0 d0 xs ds h0 td =>
        have hlen := td.len
        rw [List.length_map] at hlen
        have d1 := (u.deep_iff n).mp dp
        refine st_set pu_c ?_
        refine st_tuplG (gv_tl (pu_v rfl) h) ?_
        rintro _ _ ⟨q0, hq0, rfl, rfl⟩
        have s0 : Same H (upd H q0 (.tup xs)) := Same.upd hq0
        have t0 : (upd H q0 (.tup xs)) q0 = some (.tup xs) := upd_same
        revert s0 t0
        generalize upd H q0 (.tup xs) = H0
        intro s0 t0
        refine st_tupl (K := K) (xs := xs) pu_c (fun i σ H' => Same H0 H' ∧ ∃ z : Option V, σ = [some (.ref a), some (.int ((deepL (u.parts.take i) : Nat) : Int)), z]) ⟨Same.rfl', none, rfl⟩ (fun i σ H' _ ⟨s', _⟩ => SqT.of (s' _ _ t0)) ?_ ?_
        · rintro i y σ H1 hy ⟨s1, z, rfl⟩
          obtain ⟨di, hdi, hy'⟩ := td.get hy
          rw [List.getElem?_map] at hdi
          cases hpi : u.parts[i]? with
          | none => rw [hpi] at hdi; cases hdi
          | some p =>
            rw [hpi] at hdi
            have e1 : p.d = di := Option.some.inj hdi
            subst e1
            have hm := List.mem_of_getElem? hpi
            have hy1 := hy'.same (s0.trans s1)
            have tk : deepL (u.parts.take (i + 1)) = max (deepL (u.parts.take i)) p.deep := by
              rw [List.take_succ, hpi]
              exact deepL_snoc p _
            refine st_ifG1 (R := fun b H' => b = p.d.isTup ∧ H1 = H') (PuT.gt (pt_b (pu_isi (pa_c (pu_v rfl) (pa_c pu_c pa_n)) hy1.ty (kd_tup p.d))) ⟨rfl, rfl⟩) (fun H' e => ?_) (fun H' e => ?_)
            · obtain ⟨e, rfl⟩ := e
              cases p with
              | nm s => cases e
              | nb z => cases e
              | ws w' =>
                refine st_setG1 (R := fun v H' => v = .int ((deepL (u.parts.take (i + 1)) : Nat) : Int) ∧ Same H1 H') (gv_max (i := ((deepL (u.parts.take i) : Nat) : Int)) (R := fun v H' => v = .int ((w'.deep : Nat) : Int) ∧ Same H1 H') (pu_v rfl) (gv_call (pa_c (pu_v rfl) pa_n) fun Q q => ⟨hd, y, w', rfl, hy1, d1 _ hm, fun H' s => q _ _ ⟨rfl, s⟩⟩) ?_) ?_
                · rintro _ H' ⟨rfl, s'⟩
                  refine ⟨_, rfl, ?_, s'⟩
                  rw [tk]
                  show V.int _ = V.int ((max (deepL (u.parts.take i)) w'.deep : Nat) : Int)
                  congr 1
                  split <;> omega
                · rintro _ H' ⟨rfl, s'⟩
                  exact ⟨s1.trans s', _, rfl⟩
            · obtain ⟨e, rfl⟩ := e
              have e0 : deepL (u.parts.take (i + 1)) = deepL (u.parts.take i) := by
                rw [tk]
                cases p with
                | nm s => simp [Pa.deep]
                | nb z => simp [Pa.deep]
                | ws w' =>
                  have := wi_tup w'
                  rw [show (Pa.ws w').d.isTup = w'.d.isTup from rfl, this] at e
                  cases e
              refine ⟨s1, some y, ?_⟩
              rw [e0]
              rfl
        · rintro σ H1 ⟨s1, z, rfl⟩
          rw [hlen, List.take_length]
          rw [deep_parts] at k
          exact st_ret (v := .int ((deepL u.parts + 1 : Nat) : Int)) (pu_cast (pu_add (pu_v rfl) pu_c) (by congr 1)) (k _ (s0.trans s1))
theorem okr_deep (T : Txt K mg t w) : ∀ n : Nat, FnOk P w K mg base CX0 (5 + n) t.f_l_deep t.d_l_deep ["_law_wish_here"] (sp_l_deep n)
  | 0 => ((T.l_deep.F.okNo sc_l_deep).mono (by decide : 1 ≤ 5)).imp fun vs H Q E h => by
    obtain ⟨hd, v, u, _, _, dp, _⟩ := h
    have := u.deep_pos
    omega
  | n + 1 => (okA_deep T (okr_deep T n) (by omega)).mono (by omega)
theorem ok_l_deep (T : Txt K mg t w) : FnOk P w K mg base CX0 12 t.f_l_deep t.d_l_deep ["_law_wish_here"] (sp_l_deep 7) := okr_deep T 7
def sp_l_alike (n : Nat) : Sp := fun vs H Q _ => ∃ hd hd' v v' p, vs = [v, v'] ∧ DAt hd H v (Pa.d p) ∧ DAt hd' H v' p.d ∧ p.deep ≤ n ∧ ∀ H', Same H H' → Q (.bl true) H'
theorem sc_l_alike : FnScope ["_law_found", "_law_due", "_law_one", "_law_other"] ["_law_found", "_law_due"] (defScope s_l_alike) := ⟨rfl, rfl, rfl, by decide +kernel, rfl, by decide +kernel, by decide +kernel⟩
theorem okA_alike (T : Txt K mg t w) {n k : Nat} {spP : Sp} (GP : FnOk P w K mg base CX0 k t.f_l_alike t.d_l_alike ["_law_found", "_law_due"] spP) (hk : 5 ≤ k) (hsp : ∀ m, n = m + 1 → spP = sp_l_alike m) : FnOk P w K mg base CX0 (k + 1) t.f_l_alike t.d_l_alike ["_law_found", "_law_due"] (sp_l_alike n) := by
  have ok_l_alike := fun (_ : Txt K mg t w) => GP
  refine T.l_alike.F.ok (k := k) sc_l_alike (fun vs H Q E h => ?_) (fun cdv A outer s H vs Q E hr h => ?_)
  · obtain ⟨hd, hd', v, v', p, rfl, _⟩ := h
    rfl
  · obtain ⟨hd, hd', v, v', p, rfl, hv, hv', dp, k⟩ := h
    refine ⟨_, (@pss_cons _ _ _ _ _ (@ps_if _ _ _ _ _ _ _ _ (@pt_val _ _ _ (@pe_callB _ _ _ _ _ _ _ _ _ call_isinst (by rfl) T.b_isinstance PyProof.Rows.boot_isinstance (@pa_cons _ _ _ _ _ (pv 1) (@pa_cons _ _ _ _ _ (@pe_ty _ _ _ _ T.b_tuple PyProof.Rows.boot_tuple (by rfl) (by decide) (by decide)) (@pa_nil _) star_name) star_name) (by decide) (by decide) (by rfl) (by rfl)) (by intro _; rfl)) (@pss_cons _ _ _ _ _ (@ps_if _ _ _ _ _ _ _ _ (PW.pt (@pw_or _ _ _ _ _ _ _ (@pt_not _ _ _ _ (@pt_val _ _ _ (@pe_callB _ _ _ _ _ _ _ _ _ call_isinst (by rfl) T.b_isinstance PyProof.Rows.boot_isinstance (@pa_cons _ _ _ _ _ (pv 0) (@pa_cons _ _ _ _ _ (@pe_ty _ _ _ _ T.b_tuple PyProof.Rows.boot_tuple (by rfl) (by decide) (by decide)) (@pa_nil _) star_name) star_name) (by decide) (by decide) (by rfl) (by rfl)) (by intro _; rfl))) (@pw_or1 _ _ _ _ (@pt_cmpR _ _ _ _ _ _ _ _ op_ne (@pe_callB _ _ _ _ _ _ _ _ _ call_len_seq (by rfl) T.b_len PySem.boot_len (@pa_cons _ _ _ _ _ (pv 0) (@pa_nil _) star_name) (by decide) (by decide) (by rfl) (by rfl)) (@pe_callB _ _ _ _ _ _ _ _ _ call_len_seq (by rfl) T.b_len PySem.boot_len (@pa_cons _ _ _ _ _ (pv 1) (@pa_nil _) star_name) (by decide) (by decide) (by rfl) (by rfl)) (nomark _))))) (@pss_one _ _ _ (@ps_ret _ _ _ _ (@pe_bl _ _ _ _))) (@pss_nil _)) (@pss_cons _ _ _ _ _ (@ps_for _ _ _ _ _ _ _ _ PassesOwn.never rfl (@pi_zipTT _ _ _ _ _ _ _ _ _ rfl T.b_zip PyProof.Rows.Boot.«zip» (@pa_cons _ _ _ _ _ (pv 0) (@pa_cons _ _ _ _ _ (pv 1) (@pa_nil _) star_name) star_name) (by rfl) (by rfl)) (@pg_tup _ _ _ _ _ _ rfl (@pgs_cons _ _ _ _ _ (@pg_name _ _ 2 _ sc_l_alike.nd rfl (Or.inl rfl) (by first | exact .inl rfl | exact .inr rfl | assumption)) (@pgs_cons _ _ _ _ _ (@pg_name _ _ 3 _ sc_l_alike.nd rfl (Or.inl rfl) (by first | exact .inl rfl | exact .inr rfl | assumption)) (@pgs_nil _) (by rfl)) (by rfl)) (by rfl) (by rfl)) (@pss_one _ _ _ (@ps_if _ _ _ _ _ _ _ _ (@pt_not _ _ _ _ (@pt_val _ _ _ (@pe_fn _ _ _ _ _ _ _ _ _ _ _ _ _ _ T.l_alike (ok_l_alike T) hr (by omega) (@pa_cons _ _ _ _ _ (pv 2) (@pa_cons _ _ _ _ _ (pv 3) (@pa_nil _) star_name) star_name) (by rfl) (by decide) (by rfl) (by rfl)) (by intro _; rfl))) (@pss_one _ _ _ (@ps_ret _ _ _ _ (@pe_bl _ _ _ _))) (@pss_nil _))) (by intro _; rfl)) (@pss_one _ _ _ (@ps_ret _ _ _ _ (@pe_bl _ _ _ _))))) (@pss_nil _)) (@pss_cons _ _ _ _ _ (@ps_if _ _ _ _ _ _ _ _ (@pt_val _ _ _ (@pe_callB _ _ _ _ _ _ _ _ _ call_isinst (by rfl) T.b_isinstance PyProof.Rows.boot_isinstance (@pa_cons _ _ _ _ _ (pv 1) (@pa_cons _ _ _ _ _ (@pe_ty _ _ _ _ T.b_str PyProof.Rows.boot_str (by rfl) (by decide) (by decide)) (@pa_nil _) star_name) star_name) (by decide) (by decide) (by rfl) (by rfl)) (by intro _; rfl)) (@pss_one _ _ _ (@ps_ret _ _ _ _ (@pe_and _ _ _ _ _ _ _ (@pe_callB _ _ _ _ _ _ _ _ _ call_isinst (by rfl) T.b_isinstance PyProof.Rows.boot_isinstance (@pa_cons _ _ _ _ _ (pv 0) (@pa_cons _ _ _ _ _ (@pe_ty _ _ _ _ T.b_str PyProof.Rows.boot_str (by rfl) (by decide) (by decide)) (@pa_nil _) star_name) star_name) (by decide) (by decide) (by rfl) (by rfl)) (@pe_one _ _ _ _ _ (@pe_cmpR _ _ _ _ _ _ _ _ op_eq (pv 0) (pv 1) (nomark _)))))) (@pss_nil _)) (@pss_one _ _ _ (@ps_ret _ _ _ _ (@pe_and _ _ _ _ _ _ _ (@pe_fn _ _ _ _ _ _ _ _ _ _ _ _ _ _ T.l_whole (ok_l_whole T) hr (by omega) (@pa_cons _ _ _ _ _ (pv 0) (@pa_nil _) star_name) (by rfl) (by decide) (by rfl) (by rfl)) (@pe_one _ _ _ _ _ (@pe_cmpR _ _ _ _ _ _ _ _ op_eq (pv 0) (pv 1) (nomark _)))))))), ?_⟩
    cases p with
    | nm x =>
      cases hv with
      | str _ hx =>
        cases hv'
        refine st_ifN (b := false) (pt_b (pu_isi (pa_c (pu_v rfl) (pa_c pu_c pa_n)) (.str x) (kd_tup (.str x)))) (fun e => by cases e) (fun _ => ?_)
        refine st_ifN (b := true) (pt_b (pu_isi (pa_c (pu_v rfl) (pa_c pu_c pa_n)) (.str x) kit_same)) (fun _ => ?_) (fun e => by cases e)
        exact st_ret (v := .bl true) (pu_cast (pu_and (pu_isi (pa_c (pu_v rfl) (pa_c pu_c pa_n)) (.str x) kit_same) fun _ => pu_eqStr (pu_v rfl) (pu_v rfl)) (by simp)) (k _ Same.rfl')
    | nb z =>
      cases hv
      cases hv'
      refine st_ifN (b := false) (pt_b (pu_isi (pa_c (pu_v rfl) (pa_c pu_c pa_n)) (.int z) (kd_tup (.int z)))) (fun e => by cases e) (fun _ => ?_)
      refine st_ifN (b := false) (pt_b (pu_isi (pa_c (pu_v rfl) (pa_c pu_c pa_n)) (.int z) (kd_str (.int z)))) (fun e => by cases e) (fun _ => ?_)
      exact st_ret (v := .bl true) (pu_cast (pu_and (pu_call (pa_c (pu_v rfl) pa_n) fun Q q => ⟨z, rfl, q⟩) fun _ => pu_eqI (pu_v rfl) (pu_v rfl)) (by simp)) (k _ Same.rfl')
    | ws u =>
      cases n with
      | zero =>
        have := u.deep_pos
        have dp' : u.deep ≤ 0 := dp
        omega
      | succ n =>
      have e := hsp n rfl
      subst e
      have dp' : u.deep ≤ n + 1 := dp
      have hv0 : DAt hd H v u.d := hv
      have hv0' : DAt hd' H v' u.d := hv'
      rw [u.d_eq] at hv0 hv0'
      cases hv0 with
      | @tup a xs ds h td =>
      cases hv0' with
      | @tup a' xs' ds' h' td' =>
      have l1 := td.len
      have l2 := td'.len
      have d1 := (u.deep_iff n).mp dp'
      refine st_ifN (b := true) (pt_b (pu_isi (pa_c (pu_v rfl) (pa_c pu_c pa_n)) (.tup h') kit_same)) (fun _ => ?_) (fun e => by cases e)
      refine st_ifN (b := false) (pt_or (b := false) (c := false) (pt_n (b := true) (pt_b (pu_isi (pa_c (pu_v rfl) (pa_c pu_c pa_n)) (.tup h) kit_same))) fun _ => pt_t (pu_cast (pu_neI (pu_lenT (pa_c (pu_v rfl) pa_n) (SqT.of h)) (pu_lenT (pa_c (pu_v rfl) pa_n) (SqT.of h'))) (by rw [l1, l2]; simp))) (fun e => by cases e) (fun _ => ?_)
      refine st_zipTT (K := K) (xs := xs) (ys := xs') (pa_c (pu_v rfl) (pa_c (pu_v rfl) pa_n)) (fun i σ H' => Same H H' ∧ ∃ y z : Option V, σ = [some (.ref a), some (.ref a'), y, z]) ⟨Same.rfl', none, none, rfl⟩ (fun i σ H' e => ⟨SqT.of (e.1 _ _ h), SqT.of (e.1 _ _ h')⟩) (by rw [l1, l2]) ?_ ?_
      · rintro i x y σ H1 c hx hy ⟨s1, y', z', rfl⟩ hc
        have s2 : Same H (upd H1 c (.tup [x, y])) := s1.trans (Same.upd hc)
        obtain ⟨di, hdi, hx'⟩ := td.get hx
        obtain ⟨dj, hdj, hy'⟩ := td'.get hy
        rw [hdi] at hdj
        cases hdj
        have hp : ∃ p : Pa, p.d = di ∧ p.deep ≤ n := by
          cases i with
          | zero => exact ⟨.nm u.word, Option.some.inj hdi, Nat.zero_le _⟩
          | succ i =>
            rw [List.getElem?_cons_succ, List.getElem?_map] at hdi
            cases hpi : u.parts[i]? with
            | none => rw [hpi] at hdi; cases hdi
            | some p =>
              rw [hpi] at hdi
              exact ⟨p, Option.some.inj hdi, d1 p (List.mem_of_getElem? hpi)⟩
        obtain ⟨p, rfl, hpd⟩ := hp
        exact st_ifNG1 (gt_nt (R := fun H' => Same (upd H1 c (.tup [x, y])) H') (gv_call (pa_c (pu_v rfl) (pa_c (pu_v rfl) pa_n)) fun Q q => ⟨hd, hd', x, y, p, rfl, hx'.same s2, hy'.same s2, hpd, fun H' s => q _ _ ⟨rfl, s⟩⟩)) (fun _ e => by cases e.1) fun H2 e => ⟨s2.trans e.2, _, _, rfl⟩
      · rintro σ H1 ⟨s1, y', z', rfl⟩
        exact st_ret pu_c (k _ s1)
theorem okr_alike (T : Txt K mg t w) : ∀ n : Nat, FnOk P w K mg base CX0 (6 + n) t.f_l_alike t.d_l_alike ["_law_found", "_law_due"] (sp_l_alike n)
  | 0 => okA_alike T (k := 5) (spP := spNo) ((T.l_alike.F.okNo sc_l_alike).mono (by decide)) (by decide) (fun m e => by cases e)
  | n + 1 => (okA_alike T (okr_alike T n) (by omega) (fun m e => by cases e; rfl)).mono (by omega)
theorem ok_l_alike (T : Txt K mg t w) : FnOk P w K mg base CX0 13 t.f_l_alike t.d_l_alike ["_law_found", "_law_due"] (sp_l_alike 7) := okr_alike T 7
def sp_l_good : Sp := fun vs H Q _ => ∃ hd v u, vs = [v] ∧ DAt hd H v (Wi.d u) ∧ u.deep ≤ 6 ∧ u.names ∧ u.nums small ∧ ∀ H', Same H H' → Q (.bl true) H'
theorem nums_mono {P Q : Int → Prop} (h : ∀ k, P k → Q k) : ∀ (u : Wi), u.nums P → u.nums Q
  | .inn _, _ => trivial
  | .rnd _ k, a => h k a
  | .lst k, a => h k a
  | .no u, a => nums_mono h u a
  | .both u v, a => ⟨nums_mono h u a.1, nums_mono h v a.2⟩
  | .any u v, a => ⟨nums_mono h u a.1, nums_mono h v a.2⟩
theorem small_bd (k : Int) (h : small k) : Bd 700 k := by
  unfold Bd
  exact Nat.lt_trans h (by decide +kernel)
theorem words_len : ∀ (n : Nat) (u : Wi), u.deep ≤ n → u.words.length + 1 ≤ 4 * 2 ^ n
  | 0, u, h => by have := u.deep_pos; omega
  | n + 1, u, h => by
    have p1 : 1 ≤ 2 ^ n := Nat.pow_pos (by decide)
    rw [Nat.pow_succ]
    cases u with
    | inn x => simp only [Wi.words, List.length_cons, List.length_nil]; omega
    | rnd x k => simp only [Wi.words, List.length_cons, List.length_nil]; omega
    | lst k => simp only [Wi.words, List.length_cons, List.length_nil]; omega
    | no a =>
      have := words_len n a (by simp only [Wi.deep] at h; omega)
      simp only [Wi.words, List.length_cons]; omega
    | both a b =>
      have h1 := words_len n a (by simp only [Wi.deep] at h; omega)
      have h2 := words_len n b (by simp only [Wi.deep] at h; omega)
      simp only [Wi.words, List.length_cons, List.length_append]
      omega
    | any a b =>
      have h1 := words_len n a (by simp only [Wi.deep] at h; omega)
      have h2 := words_len n b (by simp only [Wi.deep] at h; omega)
      simp only [Wi.words, List.length_cons, List.length_append]
      omega
theorem gv_eqStr {σ : L2.St} {H : Hp} {ta tb : TE} {x y : Str} (ha : Pu ta σ H (.str x)) (hb : Gv tb σ H (fun v H' => v = .str y ∧ Same H H')) : Gv (tOp rEq ta tb) σ H (fun v H' => v = .bl (decide (x = y)) ∧ Same H H') := fun Q q => ha _ (hb _ fun v H' r => by
  obtain ⟨rfl, s⟩ := r
  exact (pu_eqStr (ta := tC (.str x)) (tb := tC (.str y)) pu_c pu_c : Pu _ [] H' _) Q (q _ _ ⟨rfl, s⟩))
theorem sc_l_good : FnScope ["_law_wish_here", "_law_text"] ["_law_wish_here"] (defScope s_l_good) := ⟨rfl, rfl, rfl, by decide +kernel, rfl, by decide +kernel, by decide +kernel⟩
theorem ok_l_good (T : Txt K mg t w) : FnOk P w K mg base CX0 22 t.f_l_good t.d_l_good ["_law_wish_here"] sp_l_good := by
  refine T.l_good.F.ok (k := 21) sc_l_good (fun vs H Q E h => ?_) (fun cdv A outer s H vs Q E hr h => ?_)
  · obtain ⟨hd, v, u, rfl, _⟩ := h
    rfl
  · obtain ⟨hd, v, u, rfl, hv, dp, nn, nk, k⟩ := h
    refine ⟨_, (@pss_cons _ _ _ _ _ (@ps_set _ _ 1 _ _ _ _ sc_l_good.nd rfl (Or.inl rfl) (@pe_fnX _ _ _ _ _ _ _ _ _ _ _ _ _ _ _ _ _ T.show_wish (okx_show_wish T) hr (by decide) passE (@pa_cons _ _ _ _ _ (pv 0) (@pa_nil _) star_name) (by rfl) (by decide) (by rfl) (by rfl)) (by rfl) (by first | exact .inl rfl | exact .inr rfl | assumption)) (@pss_one _ _ _ (@ps_ret _ _ _ _ (@pe_and _ _ _ _ _ _ _ (@pe_callB _ _ _ _ _ _ _ _ _ call_isinst (by rfl) T.b_isinstance PyProof.Rows.boot_isinstance (@pa_cons _ _ _ _ _ (pv 1) (@pa_cons _ _ _ _ _ (@pe_ty _ _ _ _ T.b_str PyProof.Rows.boot_str (by rfl) (by decide) (by decide)) (@pa_nil _) star_name) star_name) (by decide) (by decide) (by rfl) (by rfl)) (@pe_and _ _ _ _ _ _ _ (@pe_cmpR _ _ _ _ _ _ _ _ op_eq (pv 1) (@pe_fn _ _ _ _ _ _ _ _ _ _ _ _ _ _ T.l_written (ok_l_written T) hr (by decide) (@pa_cons _ _ _ _ _ (pv 0) (@pa_nil _) star_name) (by rfl) (by decide) (by rfl) (by rfl)) (nomark _)) (@pe_one _ _ _ _ _ (@pe_fn _ _ _ _ _ _ _ _ _ _ _ _ _ _ T.l_alike (ok_l_alike T) hr (by decide) (@pa_cons _ _ _ _ _ (@pe_fnX _ _ _ _ _ _ _ _ _ _ _ _ _ _ _ _ _ T.read_wish (okx_read_wish T) hr (by decide) passE (@pa_cons _ _ _ _ _ (pv 1) (@pa_nil _) star_name) (by rfl) (by decide) (by rfl) (by rfl)) (@pa_cons _ _ _ _ _ (pv 0) (@pa_nil _) star_name) star_call) (by rfl) (by decide) (by rfl) (by rfl)))))))), ?_⟩
    have nb := nums_mono small_bd u nk
    have tl := Wi.text_len 6 u dp nn nb
    have wl := words_len 6 u dp
    refine st_setG (R := fun v H' => v = .str u.text ∧ Same H H') (gv_call (sp := spx_show_wish t) (E := E0) (pa_c (pu_v rfl) pa_n) fun Q q => ⟨hd, v, u.d, rfl, hv, .inl ⟨u, rfl, dp, nn, nb, fun H' s => q _ _ ⟨rfl, s⟩⟩⟩) ?_
    rintro _ H1 ⟨rfl, s1⟩
    refine st_retG (R := fun v H2 => v = .bl true ∧ Same H H2) (gv_andG (Pu.gv' (R := fun v H' => v = .bl true ∧ H1 = H') (pu_isi (pa_c (pu_v rfl) (pa_c pu_c pa_n)) (.str _) kit_same) ⟨rfl, rfl⟩) ?_) fun _ H' e => by obtain ⟨rfl, s⟩ := e; exact k H' s
    rintro _ _ ⟨rfl, rfl⟩
    refine ⟨true, rfl, fun _ => ?_, fun e => by cases e⟩
    refine gv_andG (gv_eqStr (y := u.text) (pu_v rfl) (gv_call (pa_c (pu_v rfl) pa_n) fun Q q => ⟨hd, v, u, rfl, hv.same s1, by omega, by decide, nn, nb, fun H' s => q _ _ ⟨rfl, s⟩⟩)) ?_
    rintro _ H2 ⟨rfl, s2⟩
    refine ⟨true, by simp, fun _ => ?_, fun e => by cases e⟩
    refine gv_callA (ga_cons (gv_call (sp := spx_read_wish t) (E := E0) (R := fun v' H' => Same H2 H' ∧ ∀ hd, DAt hd H' v' u.d) (pa_c (pu_v rfl) pa_n) fun Q q => ⟨u, rfl, Nat.le_trans tl (by decide), Nat.le_trans (Nat.le_of_succ_le wl) (by decide), nn, nb, fun _ v' H' s h => q _ _ ⟨s, h⟩, fun z => absurd ⟨dp, nk⟩ z⟩) fun _ _ _ => ga_cons (Pu.gv (v := v) (pu_v rfl)) fun _ _ _ => ga_nil) ?_
    rintro _ H3 ⟨v', _, r, rfl, ⟨s3, hv3⟩, _, _, r2, rfl, ⟨rfl, rfl⟩, rfl, rfl⟩ Q q
    exact ⟨hd, hd, v', _, .ws u, rfl, hv3 hd, hv.same (s1.trans (s2.trans s3)), by show u.deep ≤ 7; omega, fun H' s => q _ _ ⟨rfl, s1.trans (s2.trans (s3.trans s))⟩⟩
def sp_l_bad : Sp := fun vs H Q _ => ∃ hd v d, vs = [v] ∧ DAt hd H v d ∧ isW 6 d = false ∧ ∀ H', Same H H' → Q (.bl true) H'
theorem sc_l_bad : FnScope ["_law_thing", "e"] ["_law_thing"] (defScope s_l_bad) := ⟨rfl, rfl, rfl, by decide +kernel, rfl, by decide +kernel, by decide +kernel⟩
theorem ok_l_bad (T : Txt K mg t w) : FnOk P w K mg base CX0 22 t.f_l_bad t.d_l_bad ["_law_thing"] sp_l_bad := by
  refine T.l_bad.F.ok (k := 21) sc_l_bad (fun vs H Q E h => ?_) (fun cdv A outer s H vs Q E hr h => ?_)
  · obtain ⟨hd, v, d, rfl, _⟩ := h
    rfl
  · obtain ⟨hd, v, d, rfl, hv, bad, k⟩ := h
    refine ⟨_, (@pss_cons _ _ _ _ _ (@ps_tryE _ 1 _ _ _ _ _ _ _ _ _ _ _ _ _ _ _ _ _ _ _ _ _ rfl rfl rfl rfl (okx_show_wish T) (hr.mono (by decide)) rfl T.show_wish.m T.show_wish.F.kp T.show_wish.b (@pa_cons _ _ _ _ _ (pv 0) (@pa_nil _) star_name) sc_l_bad.nd rfl rfl rfl T.m_PlyError (fun _ => (@pss_one _ _ _ (@ps_ret _ _ _ _ (@pe_and _ _ _ _ _ _ _ (@pe_callB _ _ _ _ _ _ _ _ _ (call_isinstK (K := K) rfl) (by rfl) T.b_isinstance PyProof.Rows.boot_isinstance (@pa_cons _ _ _ _ _ (pv 1) (@pa_cons _ _ _ _ _ (@pe_cls _ _ _ _ T.m_BadWish (by rfl) (by decide)) (@pa_nil _) star_name) star_name) (by decide) (by decide) (by rfl) (by rfl)) (@pe_and _ _ _ _ _ _ _ (@pe_callB _ _ _ _ _ _ _ _ _ (call_isinstK (K := K) rfl) (by rfl) T.b_isinstance PyProof.Rows.boot_isinstance (@pa_cons _ _ _ _ _ (pv 1) (@pa_cons _ _ _ _ _ (@pe_ty _ _ _ _ T.b_ValueError PyProof.Rows.Boot.«ValueError» (by rfl) (by decide) (by decide)) (@pa_nil _) star_name) star_name) (by decide) (by decide) (by rfl) (by rfl)) (@pe_one _ _ _ _ _ (@pe_not _ _ _ _ (@pe_callB _ _ _ _ _ _ _ _ _ (call_isinstK (K := K) rfl) (by rfl) T.b_isinstance PyProof.Rows.boot_isinstance (@pa_cons _ _ _ _ _ (pv 1) (@pa_cons _ _ _ _ _ (@pe_cls _ _ _ _ T.m_NoText (by rfl) (by decide)) (@pa_nil _) star_name) star_name) (by decide) (by decide) (by rfl) (by rfl))))))))) (by rfl) (by decide) (by decide) (by rfl) (by rfl)) (@pss_one _ _ _ (@ps_ret _ _ _ _ (@pe_bl _ _ _ _)))), ?_⟩
    refine st_tryE (pa_c (pu_v rfl) pa_n) ⟨hd, v, d, rfl, hv, .inr ⟨bad, fun H' s => ⟨T.m2, fun ea hea => ?_⟩⟩⟩
    have s1 : Same H (upd H' ea (.ext (isOf ea (.ref t.c_BadWish)))) := s.trans (Same.upd hea)
    exact st_ret (v := .bl true) (pu_cast (pu_and (pu_isE (pa_c (pu_v rfl) (pa_c pu_c pa_n)) upd_same T.x_BadWish (.ref _) T.j1) fun _ => pu_and (pu_isE (pa_c (pu_v rfl) (pa_c pu_c pa_n)) upd_same T.x_BadWish (.ty _) T.j2) fun _ => pu_not (pu_isE (pa_c (pu_v rfl) (pa_c pu_c pa_n)) upd_same T.x_BadWish (.ref _) T.j3)) rfl) (k _ s1)
def sp_l_unread : Sp := fun vs H Q _ => ∃ u : Wi, vs = [.str u.text] ∧ u.text.length ≤ 10000000 ∧ u.words.length ≤ 100000 ∧ u.names ∧ u.nums (Bd 700) ∧ ¬ rd 6 u ∧ ∀ H', Same H H' → Q (.bl true) H'
theorem sc_l_unread : FnScope ["_law_text", "e"] ["_law_text"] (defScope s_l_unread) := ⟨rfl, rfl, rfl, by decide +kernel, rfl, by decide +kernel, by decide +kernel⟩
theorem ok_l_unread (T : Txt K mg t w) : FnOk P w K mg base CX0 22 t.f_l_unread t.d_l_unread ["_law_text"] sp_l_unread := by
  refine T.l_unread.F.ok (k := 21) sc_l_unread (fun vs H Q E h => ?_) (fun cdv A outer s H vs Q E hr h => ?_)
  · obtain ⟨u, rfl, _⟩ := h
    rfl
  · obtain ⟨u, rfl, tl, wl, nn, nb, bad, k⟩ := h
    refine ⟨_, (@pss_cons _ _ _ _ _ (@ps_tryE _ 1 _ _ _ _ _ _ _ _ _ _ _ _ _ _ _ _ _ _ _ _ _ rfl rfl rfl rfl (okx_read_wish T) (hr.mono (by decide)) rfl T.read_wish.m T.read_wish.F.kp T.read_wish.b (@pa_cons _ _ _ _ _ (pv 0) (@pa_nil _) star_name) sc_l_unread.nd rfl rfl rfl T.m_PlyError (fun _ => (@pss_one _ _ _ (@ps_ret _ _ _ _ (@pe_and _ _ _ _ _ _ _ (@pe_callB _ _ _ _ _ _ _ _ _ (call_isinstK (K := K) rfl) (by rfl) T.b_isinstance PyProof.Rows.boot_isinstance (@pa_cons _ _ _ _ _ (pv 1) (@pa_cons _ _ _ _ _ (@pe_cls _ _ _ _ T.m_NoText (by rfl) (by decide)) (@pa_nil _) star_name) star_name) (by decide) (by decide) (by rfl) (by rfl)) (@pe_and _ _ _ _ _ _ _ (@pe_callB _ _ _ _ _ _ _ _ _ (call_isinstK (K := K) rfl) (by rfl) T.b_isinstance PyProof.Rows.boot_isinstance (@pa_cons _ _ _ _ _ (pv 1) (@pa_cons _ _ _ _ _ (@pe_ty _ _ _ _ T.b_ValueError PyProof.Rows.Boot.«ValueError» (by rfl) (by decide) (by decide)) (@pa_nil _) star_name) star_name) (by decide) (by decide) (by rfl) (by rfl)) (@pe_one _ _ _ _ _ (@pe_not _ _ _ _ (@pe_callB _ _ _ _ _ _ _ _ _ (call_isinstK (K := K) rfl) (by rfl) T.b_isinstance PyProof.Rows.boot_isinstance (@pa_cons _ _ _ _ _ (pv 1) (@pa_cons _ _ _ _ _ (@pe_cls _ _ _ _ T.m_BadWish (by rfl) (by decide)) (@pa_nil _) star_name) star_name) (by decide) (by decide) (by rfl) (by rfl))))))))) (by rfl) (by decide) (by decide) (by rfl) (by rfl)) (@pss_one _ _ _ (@ps_ret _ _ _ _ (@pe_bl _ _ _ _)))), ?_⟩
    refine st_tryE (pa_c (pu_v rfl) pa_n) ⟨u, rfl, tl, wl, nn, nb, fun z => absurd z bad, fun _ H' s => ⟨T.m1, fun ea hea => ?_⟩⟩
    have s1 : Same H (upd H' ea (.ext (isOf ea (.ref t.c_NoText)))) := s.trans (Same.upd hea)
    exact st_ret (v := .bl true) (pu_cast (pu_and (pu_isE (pa_c (pu_v rfl) (pa_c pu_c pa_n)) upd_same T.x_NoText (.ref _) T.i1) fun _ => pu_and (pu_isE (pa_c (pu_v rfl) (pa_c pu_c pa_n)) upd_same T.x_NoText (.ty _) T.i2) fun _ => pu_not (pu_isE (pa_c (pu_v rfl) (pa_c pu_c pa_n)) upd_same T.x_NoText (.ref _) T.i3)) rfl) (k _ s1)
def sW (s : String) : D := .str (Str.ofString s)
def things1 (x : Str) : List D := [.non, .int 7, sW "in a", .lst [sW "in", .str x], .tup [], .tup [sW "in"], .tup [sW "in", .str (x ++ Str.ofString "A")], .tup [sW "in", sW ""], .tup [sW "in", sW "abcdefghi"]]
def things2 (x : Str) : List D := [.tup [sW "in", .str x, .str x], .tup [sW "round", .str x], .tup [sW "round", .str x, .bl true], .tup [sW "least", sW "1"], .tup [sW "least", .non]]
def things3 (x : Str) (d : D) : List D := [.tup [sW "no", .tup [sW "in", .int 3]], .tup [sW "no", d, d], .tup [sW "both", d], .tup [sW "any", d, .non], .tup [sW "some", .str x]]
def things4 (x : Str) (d : D) : List D := [.tup [sW "both", .lst [d], d], .tup [.str x, d], .tup [.non, .str x], .tup [sW "round", .int 1, .str x], .tup [sW "least"]]
def DE (hd : Addr) (σ : L2.St) (H0 : Hp) (te : TE) (d : D) : Prop := ∀ H', Same H0 H' → Gv te σ H' (fun v H2 => Same H' H2 ∧ DAt hd H2 v d)
def DA (hd : Addr) (σ : L2.St) (H0 : Hp) (ta : TA) (ds : List D) : Prop := ∀ H', Same H0 H' → GvA ta σ H' (fun vs H2 => Same H' H2 ∧ DsAt hd H2 vs ds)
section
variable {hd : Addr} {σ : L2.St} {H0 : Hp} {te te' : TE} {ta : TA} {d : D} {ds ds' : List D}
theorem de_s {x : Str} (h : (∀ c ∈ x.cps.toList, c < 128) ∧ x.length ≤ 1000) : DE hd σ H0 (tC (.str x)) (.str x) := fun H' s => Pu.gv' pu_c ⟨Same.rfl', .str x h⟩
theorem de_i {n : Int} : DE hd σ H0 (tC (.int n)) (.int n) := fun H' s => Pu.gv' pu_c ⟨Same.rfl', .int n⟩
theorem de_n : DE hd σ H0 (tC .non) .non := fun H' s => Pu.gv' pu_c ⟨Same.rfl', .non⟩
theorem de_b {b : Bool} : DE hd σ H0 (tC (.bl b)) (.bl b) := fun H' s => Pu.gv' pu_c ⟨Same.rfl', .bl b⟩
theorem de_v {i : Nat} {v : V} (h : σ[i]? = some (some v)) (hv : DAt hd H0 v d) : DE hd σ H0 (tVar i) d := fun H' s => Pu.gv' (pu_v h) ⟨Same.rfl', hv.same s⟩
theorem da_n : DA hd σ H0 tNil [] := fun H' s Q q => q _ _ ⟨Same.rfl', .nil⟩
theorem da_c (h : DE hd σ H0 te d) (t : DA hd σ H0 ta ds) : DA hd σ H0 (tCons te ta) (d :: ds) := fun H' s Q q => h H' s _ fun v H1 r => t H1 (s.trans r.1) _ fun vs H2 r' => q _ _ ⟨r.1.trans r'.1, .cons (r.2.same r'.1) r'.2⟩
theorem de_tup (h : DA hd σ H0 ta ds) (hz : ds.length ≤ 1000 := by simp [things1, things2, things3, things4]) : DE hd σ H0 (tTup ta) (.tup ds) := fun H' s => gv_tupA (h H' s) fun vs H1 r => ⟨by rw [r.2.len]; exact Nat.le_trans hz (by decide), fun p hp => ⟨r.1.trans (Same.upd hp), .tup upd_same (r.2.same (Same.upd hp))⟩⟩
theorem de_lst {o : HO} (ho : H0 hd = some o) (h : DA hd σ H0 ta ds) (hz : ds.length ≤ 1000 := by simp [things1, things2, things3, things4]) : DE hd σ H0 (tLst ta) (.lst ds) := fun H' s => gv_lstA (h H' s) fun vs H1 r => ⟨by rw [r.2.len]; exact Nat.le_trans hz (by decide), fun p hp => ⟨r.1.trans (Same.upd hp), .lst upd_same (Ne.symm (ne_of_none (r.1 _ _ (s _ _ ho)) hp)) (r.2.same (Same.upd hp))⟩⟩
theorem ds_app {H : Hp} : ∀ {vs ws : List V} {ds es : List D}, DsAt hd H vs ds → DsAt hd H ws es → DsAt hd H (vs ++ ws) (ds ++ es)
  | _, _, _, _, .nil, h => h
  | _, _, _, _, .cons a t, h => .cons a (ds_app t h)
theorem de_cat {o : HO} (ho : H0 hd = some o) (h : DE hd σ H0 te (.lst ds)) (h' : DE hd σ H0 te' (.lst ds')) (hz : ds.length + ds'.length ≤ 1000 := by simp [things1, things2, things3, things4]) : DE hd σ H0 (tOp rCat te te') (.lst (ds ++ ds')) := fun H' s Q q => h H' s _ fun v H1 r => h' H1 (s.trans r.1) _ fun v' H2 r' => by
  obtain ⟨s1, hv⟩ := r
  obtain ⟨s2, hv'⟩ := r'
  have hv2 := hv.same s2
  cases hv2 with
  | @lst a xs _ h1 n1 t1 =>
    cases hv' with
    | @lst b ys _ h2 n2 t2 =>
      refine ⟨a, b, xs, ys, rfl, rfl, h1, h2, by rw [t1.len, t2.len]; exact Nat.le_trans hz (by decide), fun p hp => q _ _ ⟨s1.trans (s2.trans (Same.upd hp)), .lst upd_same (Ne.symm (ne_of_none (s2 _ _ (s1 _ _ (s _ _ ho))) hp)) ((ds_app t1 t2).same (Same.upd hp))⟩⟩
end
theorem nameA (x : Str) : nameOk (x ++ Str.ofString "A") = false := by
  unfold nameOk
  have h : ((x ++ Str.ofString "A").cps.toList.all fun c => decide (c ∈ letters.cps.toList)) = false := by
    rw [List.all_eq_false]
    refine ⟨65, ?_, by decide +kernel⟩
    rw [app_list, List.mem_append]
    exact .inr (by decide +kernel)
  rw [h]
  simp
theorem no_things {x : Str} {u : Wi} (h6 : 6 ≤ u.deep) (nn : u.names) : ∀ d ∈ things1 x ++ things2 x ++ things3 x u.d ++ things4 x u.d, isW 6 d = false := by
  have w5 : isW 5 u.d = false := by rw [u.isW_d 5 nn, decide_eq_false (by omega)]
  have i5 := Wi.shp_in
  have r5 := Wi.shp_round
  have l5 := Wi.shp_least
  have n5 := Wi.shp_no
  have b5 := Wi.shp_both
  have a5 := Wi.shp_any
  have some5 : shp (Str.ofString "some") = none := by decide +kernel
  have e0 : nameOk (Str.ofString "") = false := by decide +kernel
  have e9 : nameOk (Str.ofString "abcdefghi") = false := by decide +kernel
  have nl5 : ∀ ds, isW 5 (.lst ds) = false := fun ds => rfl
  have nn5 : isW 5 .non = false := rfl
  have in5 : isW 5 (.tup [.str (Str.ofString "in"), .int 3]) = false := by simp [isW, i5, partsOk, partOk]
  have ut := wi_tup u
  have xw : isW 6 (.tup [.str x, u.d]) = false := by
    show (match shp x with | none => false | some ks => partsOk (isW 5) ks [u.d]) = false
    cases shp x with
    | none => rfl
    | some ks =>
      cases ks with
      | nil => rfl
      | cons k ks =>
        cases ks with
        | cons _ _ => simp [partsOk]
        | nil =>
          cases k with
          | name => revert ut; cases u.d <;> simp [partsOk, partOk, D.isTup]
          | number => revert ut; cases u.d <;> simp [partsOk, partOk, D.isTup]
          | wish => simp [partsOk, partOk, w5]
  intro d hd
  simp only [things1, things2, things3, things4, sW, List.cons_append, List.nil_append, List.mem_cons, List.not_mem_nil, or_false] at hd
  rcases hd with rfl | rfl | rfl | rfl | rfl | rfl | rfl | rfl | rfl | rfl | rfl | rfl | rfl | rfl | rfl | rfl | rfl | rfl | rfl | rfl | rfl | rfl | rfl | rfl
  all_goals first | rfl | exact xw | (show isW (5 + 1) _ = false; simp only [isW, i5, r5, l5, n5, b5, a5, some5]; simp [partsOk, partOk, w5, nameA, e0, e9, nl5, nn5, in5])
def sp_l_no_wish : Sp := fun vs H Q _ => ∃ hd sc v u, vs = [.ref hd, v] ∧ HandAt H hd sc ∧ DAt hd H v (Wi.d u) ∧ u.names ∧ 6 ≤ u.deep ∧ ∀ r d H', DAt hd H' r d → isW 6 d = false → HandAt H' hd sc → SameB hd H H' → Q r H'
theorem sc_l_no_wish : FnScope ["_law_hand_here", "_law_wish_here", "_law_name_here", "_law_some"] ["_law_hand_here", "_law_wish_here"] (defScope s_l_no_wish) := ⟨rfl, rfl, rfl, by decide +kernel, rfl, by decide +kernel, by decide +kernel⟩
theorem ok_l_no_wish (T : Txt K mg t w) : FnOk P w K mg base CX0 5 t.f_l_no_wish t.d_l_no_wish ["_law_hand_here", "_law_wish_here"] sp_l_no_wish := by
  refine T.l_no_wish.F.ok (k := 4) sc_l_no_wish (fun vs H Q E h => ?_) (fun cdv A outer s H vs Q E hr h => ?_)
  · obtain ⟨hd, sc, v, u, rfl, _⟩ := h
    rfl
  · obtain ⟨hd, sc, v, u, rfl, hh, hv, nn, h6, k⟩ := h
    refine ⟨_, (@pss_cons _ _ _ _ _ (@ps_set _ _ 2 _ _ _ _ sc_l_no_wish.nd rfl (Or.inl rfl) (@pe_fn _ _ _ _ _ _ _ _ _ _ _ _ _ _ T.l_name (ok_l_name T) hr (by decide) (@pa_cons _ _ _ _ _ (pv 0) (@pa_nil _) star_name) (by rfl) (by decide) (by rfl) (by rfl)) (by rfl) (by first | exact .inl rfl | exact .inr rfl | assumption)) (@pss_cons _ _ _ _ _ (@ps_set _ _ 3 _ _ _ _ sc_l_no_wish.nd rfl (Or.inl rfl) (@pe_lst _ _ _ _ (@pa_cons _ _ _ _ _ (@pe_non _ _ _) (@pa_cons _ _ _ _ _ (@pe_int _ _ _ _) (@pa_cons _ _ _ _ _ (@pe_str _ _ _ _) (@pa_cons _ _ _ _ _ (@pe_lst _ _ _ _ (@pa_cons _ _ _ _ _ (@pe_str _ _ _ _) (@pa_cons _ _ _ _ _ (pv 2) (@pa_nil _) star_name) star_con)) (@pa_cons _ _ _ _ _ (@pe_tup _ _ _ _ _ (@pa_nil _)) (@pa_cons _ _ _ _ _ (@pe_tup _ _ _ _ _ (@pa_cons _ _ _ _ _ (@pe_str _ _ _ _) (@pa_nil _) star_con)) (@pa_cons _ _ _ _ _ (@pe_tup _ _ _ _ _ (@pa_cons _ _ _ _ _ (@pe_str _ _ _ _) (@pa_cons _ _ _ _ _ (@pe_op _ _ _ _ _ _ _ _ op_add_str (pv 2) (@pe_str _ _ _ _)) (@pa_nil _) star_bin) star_con)) (@pa_cons _ _ _ _ _ (@pe_tup _ _ _ _ _ (@pa_cons _ _ _ _ _ (@pe_str _ _ _ _) (@pa_cons _ _ _ _ _ (@pe_str _ _ _ _) (@pa_nil _) star_con) star_con)) (@pa_cons _ _ _ _ _ (@pe_tup _ _ _ _ _ (@pa_cons _ _ _ _ _ (@pe_str _ _ _ _) (@pa_cons _ _ _ _ _ (@pe_str _ _ _ _) (@pa_nil _) star_con) star_con)) (@pa_nil _) star_tup) star_tup) star_tup) star_tup) star_tup) star_lst) star_con) star_con) star_con)) (by rfl) (by first | exact .inl rfl | exact .inr rfl | assumption)) (@pss_cons _ _ _ _ _ (@ps_set _ _ 3 _ _ _ _ sc_l_no_wish.nd rfl (Or.inl rfl) (@pe_op _ _ _ _ _ _ _ _ op_cat (pv 3) (@pe_lst _ _ _ _ (@pa_cons _ _ _ _ _ (@pe_tup _ _ _ _ _ (@pa_cons _ _ _ _ _ (@pe_str _ _ _ _) (@pa_cons _ _ _ _ _ (pv 2) (@pa_cons _ _ _ _ _ (pv 2) (@pa_nil _) star_name) star_name) star_con)) (@pa_cons _ _ _ _ _ (@pe_tup _ _ _ _ _ (@pa_cons _ _ _ _ _ (@pe_str _ _ _ _) (@pa_cons _ _ _ _ _ (pv 2) (@pa_nil _) star_name) star_con)) (@pa_cons _ _ _ _ _ (@pe_tup _ _ _ _ _ (@pa_cons _ _ _ _ _ (@pe_str _ _ _ _) (@pa_cons _ _ _ _ _ (pv 2) (@pa_cons _ _ _ _ _ (@pe_bl _ _ _ _) (@pa_nil _) star_con) star_name) star_con)) (@pa_cons _ _ _ _ _ (@pe_tup _ _ _ _ _ (@pa_cons _ _ _ _ _ (@pe_str _ _ _ _) (@pa_cons _ _ _ _ _ (@pe_str _ _ _ _) (@pa_nil _) star_con) star_con)) (@pa_cons _ _ _ _ _ (@pe_tup _ _ _ _ _ (@pa_cons _ _ _ _ _ (@pe_str _ _ _ _) (@pa_cons _ _ _ _ _ (@pe_non _ _ _) (@pa_nil _) star_con) star_con)) (@pa_nil _) star_tup) star_tup) star_tup) star_tup) star_tup))) (by rfl) (by first | exact .inl rfl | exact .inr rfl | assumption)) (@pss_cons _ _ _ _ _ (@ps_set _ _ 3 _ _ _ _ sc_l_no_wish.nd rfl (Or.inl rfl) (@pe_op _ _ _ _ _ _ _ _ op_cat (pv 3) (@pe_lst _ _ _ _ (@pa_cons _ _ _ _ _ (@pe_tup _ _ _ _ _ (@pa_cons _ _ _ _ _ (@pe_str _ _ _ _) (@pa_cons _ _ _ _ _ (@pe_tup _ _ _ _ _ (@pa_cons _ _ _ _ _ (@pe_str _ _ _ _) (@pa_cons _ _ _ _ _ (@pe_int _ _ _ _) (@pa_nil _) star_con) star_con)) (@pa_nil _) star_tup) star_con)) (@pa_cons _ _ _ _ _ (@pe_tup _ _ _ _ _ (@pa_cons _ _ _ _ _ (@pe_str _ _ _ _) (@pa_cons _ _ _ _ _ (pv 1) (@pa_cons _ _ _ _ _ (pv 1) (@pa_nil _) star_name) star_name) star_con)) (@pa_cons _ _ _ _ _ (@pe_tup _ _ _ _ _ (@pa_cons _ _ _ _ _ (@pe_str _ _ _ _) (@pa_cons _ _ _ _ _ (pv 1) (@pa_nil _) star_name) star_con)) (@pa_cons _ _ _ _ _ (@pe_tup _ _ _ _ _ (@pa_cons _ _ _ _ _ (@pe_str _ _ _ _) (@pa_cons _ _ _ _ _ (pv 1) (@pa_cons _ _ _ _ _ (@pe_non _ _ _) (@pa_nil _) star_con) star_name) star_con)) (@pa_cons _ _ _ _ _ (@pe_tup _ _ _ _ _ (@pa_cons _ _ _ _ _ (@pe_str _ _ _ _) (@pa_cons _ _ _ _ _ (pv 2) (@pa_nil _) star_name) star_con)) (@pa_nil _) star_tup) star_tup) star_tup) star_tup) star_tup))) (by rfl) (by first | exact .inl rfl | exact .inr rfl | assumption)) (@pss_cons _ _ _ _ _ (@ps_set _ _ 3 _ _ _ _ sc_l_no_wish.nd rfl (Or.inl rfl) (@pe_op _ _ _ _ _ _ _ _ op_cat (pv 3) (@pe_lst _ _ _ _ (@pa_cons _ _ _ _ _ (@pe_tup _ _ _ _ _ (@pa_cons _ _ _ _ _ (@pe_str _ _ _ _) (@pa_cons _ _ _ _ _ (@pe_lst _ _ _ _ (@pa_cons _ _ _ _ _ (pv 1) (@pa_nil _) star_name)) (@pa_cons _ _ _ _ _ (pv 1) (@pa_nil _) star_name) star_lst) star_con)) (@pa_cons _ _ _ _ _ (@pe_tup _ _ _ _ _ (@pa_cons _ _ _ _ _ (pv 2) (@pa_cons _ _ _ _ _ (pv 1) (@pa_nil _) star_name) star_name)) (@pa_cons _ _ _ _ _ (@pe_tup _ _ _ _ _ (@pa_cons _ _ _ _ _ (@pe_non _ _ _) (@pa_cons _ _ _ _ _ (pv 2) (@pa_nil _) star_name) star_con)) (@pa_cons _ _ _ _ _ (@pe_tup _ _ _ _ _ (@pa_cons _ _ _ _ _ (@pe_str _ _ _ _) (@pa_cons _ _ _ _ _ (@pe_int _ _ _ _) (@pa_cons _ _ _ _ _ (pv 2) (@pa_nil _) star_name) star_con) star_con)) (@pa_cons _ _ _ _ _ (@pe_tup _ _ _ _ _ (@pa_cons _ _ _ _ _ (@pe_str _ _ _ _) (@pa_nil _) star_con)) (@pa_nil _) star_tup) star_tup) star_tup) star_tup) star_tup))) (by rfl) (by first | exact .inl rfl | exact .inr rfl | assumption)) (@pss_one _ _ _ (@ps_ret _ _ _ _ (@pe_ix _ _ _ _ _ _ _ ix_list (pv 3) (@pe_fn _ _ _ _ _ _ _ _ _ _ _ _ _ _ T.l_draw (ok_l_draw T) hr (by decide) (@pa_cons _ _ _ _ _ (pv 0) (@pa_cons _ _ _ _ _ (@pe_int _ _ _ _) (@pa_nil _) star_con) star_name) (by rfl) (by decide) (by rfl) (by rfl)) (fun _ _ => rfl))))))))), ?_⟩
    obtain ⟨ys, hys⟩ := hh.ls
    refine st_setG (gv_name hh (pa_c (pu_v rfl) pa_n)) ?_
    rintro _ H1 ⟨⟨x, rfl, nx⟩, hh1, s1⟩
    obtain ⟨ys1, hys1⟩ := hh1.ls
    have hv1 := DAt.but hys s1 hv
    have hx : DAt hd H1 (.str x) (.str x) := .str x (nAsc nx)
    have W : ∀ {z : String}, ((∀ c ∈ (Str.ofString z).cps.toList, c < 128) ∧ (Str.ofString z).length ≤ 1000) → ∀ {σ : L2.St} {H0 : Hp}, DE hd σ H0 (tC (.str (Str.ofString z))) (sW z) := fun h => de_s h
    have XA : ∀ {σ : L2.St} {H0 : Hp}, σ[2]? = some (some (.str x)) → DE hd σ H0 (tOp (fun x y H Q => ∃ i j, x = .str i ∧ y = .str j ∧ i.length + j.length ≤ sizeLine ∧ Q (.str (i ++ j)) H) (tVar 2) (tC (.str (Str.ofString "A")))) (.str (x ++ Str.ofString "A")) := fun h H' s => by
      have a1 : (Str.ofString "A").length = 1 := by decide +kernel
      have n8 := (name_len nx).2
      have big : 1000 ≤ sizeLine := by decide
      refine Pu.gv' (pu_addS (pu_v h) pu_c (by omega)) ⟨Same.rfl', .str _ ⟨fun c hc => ?_, by rw [app_len]; omega⟩⟩
      rw [app_list] at hc
      rcases List.mem_append.mp hc with hc | hc
      · exact name_ascii nx c hc
      · have : ∀ c ∈ (Str.ofString "A").cps.toList, c < 128 := by decide +kernel
        exact this c hc
    refine st_setG ((de_lst (ds := things1 x) hys1 (da_c de_n (da_c de_i (da_c (W (by decide +kernel)) (da_c (de_lst hys1 (da_c (W (by decide +kernel)) (da_c (de_v rfl hx) da_n))) (da_c (de_tup da_n) (da_c (de_tup (da_c (W (by decide +kernel)) da_n)) (da_c (de_tup (da_c (W (by decide +kernel)) (da_c (XA rfl) da_n))) (da_c (de_tup (da_c (W (by decide +kernel)) (da_c (W (by decide +kernel)) da_n))) (da_c (de_tup (da_c (W (by decide +kernel)) (da_c (W (by decide +kernel)) da_n))) da_n))))))))) ) H1 Same.rfl') ?_
    rintro v2 H2 ⟨s2, hv2⟩
    refine st_setG ((de_cat (ds := things1 x) (ds' := things2 x) (s2 _ _ hys1) (de_v rfl hv2) (de_lst (s2 _ _ hys1) (da_c (de_tup (da_c (W (by decide +kernel)) (da_c (de_v rfl (hx.same s2)) (da_c (de_v rfl (hx.same s2)) da_n)))) (da_c (de_tup (da_c (W (by decide +kernel)) (da_c (de_v rfl (hx.same s2)) da_n))) (da_c (de_tup (da_c (W (by decide +kernel)) (da_c (de_v rfl (hx.same s2)) (da_c de_b da_n)))) (da_c (de_tup (da_c (W (by decide +kernel)) (da_c (W (by decide +kernel)) da_n))) (da_c (de_tup (da_c (W (by decide +kernel)) (da_c de_n da_n))) da_n))))))) H2 Same.rfl') ?_
    rintro v3 H3 ⟨s3, hv3⟩
    have s13 := s2.trans s3
    have hx3 := hx.same s13
    have hw3 := hv1.same s13
    refine st_setG ((de_cat (ds' := things3 x u.d) (s13 _ _ hys1) (de_v rfl hv3) (de_lst (s13 _ _ hys1) (da_c (de_tup (da_c (W (by decide +kernel)) (da_c (de_tup (da_c (W (by decide +kernel)) (da_c de_i da_n))) da_n))) (da_c (de_tup (da_c (W (by decide +kernel)) (da_c (de_v rfl hw3) (da_c (de_v rfl hw3) da_n)))) (da_c (de_tup (da_c (W (by decide +kernel)) (da_c (de_v rfl hw3) da_n))) (da_c (de_tup (da_c (W (by decide +kernel)) (da_c (de_v rfl hw3) (da_c de_n da_n)))) (da_c (de_tup (da_c (W (by decide +kernel)) (da_c (de_v rfl hx3) da_n))) da_n))))))) H3 Same.rfl') ?_
    rintro v4 H4 ⟨s4, hv4⟩
    have s14 := s13.trans s4
    have hx4 := hx.same s14
    have hw4 := hv1.same s14
    refine st_setG ((de_cat (ds' := things4 x u.d) (s14 _ _ hys1) (de_v rfl hv4) (de_lst (s14 _ _ hys1) (da_c (de_tup (da_c (W (by decide +kernel)) (da_c (de_lst (s14 _ _ hys1) (da_c (de_v rfl hw4) da_n)) (da_c (de_v rfl hw4) da_n)))) (da_c (de_tup (da_c (de_v rfl hx4) (da_c (de_v rfl hw4) da_n))) (da_c (de_tup (da_c de_n (da_c (de_v rfl hx4) da_n))) (da_c (de_tup (da_c (W (by decide +kernel)) (da_c de_i (da_c (de_v rfl hx4) da_n)))) (da_c (de_tup (da_c (W (by decide +kernel)) da_n)) da_n))))))) H4 Same.rfl') ?_
    rintro v5 H5 ⟨s5, hv5⟩
    have s15 := s14.trans s5
    have hh5 := hh1.same s15
    have hys5 := s15 _ _ hys1
    cases hv5 with
    | @lst l xs _ hl nl tl =>
      have l24 := tl.len
      refine st_retG (R := fun r H' => ∃ d, DAt hd H' r d ∧ isW 6 d = false ∧ HandAt H' hd sc ∧ SameB hd H H') (fun Q q => pu_v (v := .ref l) rfl _ (gv_draw hh5 (pa_c (pu_v rfl) (pa_c pu_c pa_n)) (by decide) Bd.small _ ?_)) fun r H' z => by obtain ⟨d, a, b, c, e⟩ := z; exact k r d H' a b c e
      rintro _ H6 ⟨⟨m, rfl, m0, m1⟩, hh6, s6⟩
      have l24' : xs.length = 24 := by rw [l24]; rfl
      have hm : m.toNat < xs.length := by omega
      obtain ⟨d, hdm, hda⟩ := tl.get (List.getElem?_eq_getElem hm)
      have hat : atI xs m = some xs[m.toNat] := by
        have := atI_nat (xs := xs) (j := m.toNat) (v := xs[m.toNat]) (List.getElem?_eq_getElem hm)
        rwa [show ((m.toNat : Nat) : Int) = m by omega] at this
      exact ⟨l, xs, m, _, rfl, rfl, SqL.of (s6 _ _ hl nl), hat, q _ _ ⟨d, DAt.but hys5 s6 hda, no_things h6 nn d (List.mem_of_getElem? hdm), hh6, (s1.trans s15.b).trans s6⟩⟩
def sp_law (K : PySem.W.Frag) : Sp := fun vs H Q _ => ∃ (a : Addr) (ns : List Int), vs = [.ref a] ∧ SqL K H a (ns.map V.int) ∧ ns.length ≤ 63 ∧ ∀ H', Q (.bl true) H'
def noN : Nat → Wi → Wi
  | 0, u => u
  | m + 1, u => .no (noN m u)
theorem noN_deep : ∀ (m : Nat) (u : Wi), (noN m u).deep = u.deep + m
  | 0, u => rfl
  | m + 1, u => by
    show (noN m u).deep + 1 = _
    rw [noN_deep m u]
    omega
theorem noN_names : ∀ (m : Nat) (u : Wi), u.names → (noN m u).names
  | 0, u, h => h
  | m + 1, u, h => noN_names m u h
theorem noN_nums {P : Int → Prop} : ∀ (m : Nat) (u : Wi), u.nums P → (noN m u).nums P
  | 0, u, h => h
  | m + 1, u, h => noN_nums m u h
theorem noN_words : ∀ (m : Nat) (u : Wi), (noN m u).words.length = u.words.length + m
  | 0, u => rfl
  | m + 1, u => by
    show (Str.ofString "no" :: (noN m u).words).length = _
    rw [List.length_cons, noN_words m u]
    omega
theorem no_text (u : Wi) : (Wi.no u).text.cps.toList = (Str.ofString "no ").cps.toList ++ u.text.cps.toList := by
  have e : (Wi.no u).text = Str.ofString "no" ++ Str.ofString " " ++ u.text := join_cons _ _ u.words_ne
  rw [e, app_list, app_list]
  congr 1
theorem noN_text : ∀ (m : Nat) (u : Wi), (noN m u).text.cps.toList = (List.replicate m (Str.ofString "no ").cps.toList).flatten ++ u.text.cps.toList
  | 0, u => by simp [noN]
  | m + 1, u => by
    show (Wi.no (noN m u)).text.cps.toList = _
    rw [no_text, noN_text m u, List.replicate_succ, List.flatten_cons, List.append_assoc]
theorem noN_len : ∀ (m : Nat) (u : Wi), (noN m u).text.length = u.text.length + 3 * m
  | 0, u => rfl
  | m + 1, u => by
    show (Wi.no (noN m u)).text.length = _
    have h3 : (Str.ofString "no ").cps.toList.length = 3 := by decide +kernel
    rw [← L2.len_list, no_text, List.length_append, h3, L2.len_list, noN_len m u]
    omega
theorem fold_rep (x : Array Nat) : ∀ (m : Nat) (a : Array Nat), (List.foldl (fun x1 x2 => x1 ++ x2) a (List.replicate m x)).toList = a.toList ++ (List.replicate m x.toList).flatten
  | 0, a => by simp
  | m + 1, a => by
    rw [List.replicate_succ, List.foldl_cons, fold_rep x m, List.replicate_succ, List.flatten_cons]
    simp
theorem mul_text {m : Int} (h : 0 < m) (u : Wi) : Txt.mul (Str.ofString "no ") m ++ u.text = (noN m.toNat u).text := by
  apply str_ext
  rw [app_list, noN_text]
  congr 1
  unfold Txt.mul
  rw [if_neg (by omega)]
  split
  · rename_i e
    have l3 : ((Str.ofString "no ").length == 0) = false := by decide +kernel
    rw [l3, Bool.or_false, beq_iff_eq] at e
    subst e
    simp
  · exact (fold_rep _ _ _).trans (by simp)
theorem mul_ok {m : Int} (h0 : 0 < m) (h1 : m ≤ 2000) : MulOk (Str.ofString "no ") m := by
  have l3 : (Str.ofString "no ").length = 3 := by decide +kernel
  refine ⟨by simp; omega, fun _ _ => ?_, fun _ _ => ?_⟩
  · rw [l3]
    have : (3 : Int) ≤ (2 ^ 63 - 1) / m := by
      rw [Int.le_ediv_iff_mul_le h0]
      omega
    omega
  · rw [l3]
    unfold Builtin.Str.tooLong
    rw [decide_eq_false_iff_not]
    have : sizeLine = 16777216 := by decide
    omega
theorem gt_neStr2 {σ : L2.St} {H : Hp} {ta tb : TE} {x y : Str} (ha : Gv ta σ H (fun v H' => v = .str x ∧ Same H H')) (hb : ∀ H', Same H H' → Gv tb σ H' (fun v H2 => v = .str y ∧ Same H' H2)) : GvT (tTest (tOp rNe ta tb)) σ H (fun b H' => b = !decide (x = y) ∧ Same H H') := fun Q q => ha _ fun v H' r => by
  obtain ⟨rfl, s⟩ := r
  refine hb H' s _ fun v' H2 r' => ?_
  obtain ⟨rfl, s'⟩ := r'
  exact (pt_t (pu_neStr (ta := tC (.str x)) (tb := tC (.str y)) pu_c pu_c) : PuT _ [] H2 _) Q (q _ _ ⟨rfl, s.trans s'⟩)
theorem gv_opG {σ : L2.St} {H : Hp} {r : V → V → Hp → VK → Prop} {ta tb : TE} {R1 : V → Hp → Prop} {R2 : V → V → Hp → Prop} {R : V → Hp → Prop} (ha : Gv ta σ H R1) (hb : ∀ x H1, R1 x H1 → Gv tb σ H1 (R2 x)) (hr : ∀ x y H2, R2 x y H2 → ∀ Q : VK, (∀ v H', R v H' → Q v H') → r x y H2 Q) : Gv (tOp r ta tb) σ H R := fun Q q => ha _ fun x H1 h1 => hb x H1 h1 _ fun y H2 h2 => hr x y H2 h2 Q q
/-- the law's own text of a wish -/
theorem gv_wr {σ : L2.St} {H : Hp} {hd : Addr} {t : TA} {v : V} {u : Wi} (ha : PuA t σ H [v]) (hv : DAt hd H v u.d) (dp : u.deep ≤ 7) (nn : u.names) (nb : u.nums (Bd 700)) : Gv (tCall (sp_l_written 7) [] E0 t) σ H (fun r H' => r = .str u.text ∧ Same H H') :=
  gv_call ha fun Q q => ⟨hd, v, u, rfl, hv, dp, by decide, nn, nb, fun H' s => q _ _ ⟨rfl, s⟩⟩
/-- unread(..) -/
theorem gv_unr {σ : L2.St} {H : Hp} {te : TE} {u : Wi} (he : Gv te σ H (fun r H' => r = .str u.text ∧ Same H H')) (tl : u.text.length ≤ 10000000) (wl : u.words.length ≤ 100000) (nn : u.names) (nb : u.nums (Bd 700)) (bad : ¬ rd 6 u) : Gv (tCall sp_l_unread [] E0 (tCons te tNil)) σ H (fun r H' => r = .bl true ∧ Same H H') := by
  refine gv_callA (ga_cons he fun _ _ _ => ga_nil) ?_
  rintro _ H1 ⟨_, _, r, rfl, ⟨rfl, s1⟩, rfl, rfl⟩ Q q
  exact ⟨u, rfl, tl, wl, nn, nb, bad, fun H' s => q _ _ ⟨rfl, s1.trans s⟩⟩
theorem sc_law : FnScope ["_law_script", "_law_hand_here", "_law_k", "_law_wish_here", "_law_j", "_law_deeper", "_law_far"] ["_law_script"] (defScope s_law) := ⟨rfl, rfl, rfl, by decide +kernel, rfl, by decide +kernel, by decide +kernel⟩
theorem ok_law (T : Txt K mg t w) : FnOk P w K mg base CX0 23 t.f_law t.d_law ["_law_script"] (sp_law K) := by
  refine T.law.F.ok (k := 22) sc_law (fun vs H Q E h => ?_) (fun cdv A outer s H vs Q E hr h => ?_)
  · obtain ⟨a, ns, rfl, _⟩ := h
    rfl
  · obtain ⟨sa, ns, rfl, hS, hlen, k⟩ := h
    refine ⟨_, (@pss_cons _ _ _ _ _ (@ps_set _ _ 1 _ _ _ _ sc_law.nd rfl (Or.inl rfl) (@pe_fn _ _ _ _ _ _ _ _ _ _ _ _ _ _ T.l_hand (ok_l_hand T) hr (by decide) (@pa_cons _ _ _ _ _ (pv 0) (@pa_nil _) star_name) (by rfl) (by decide) (by rfl) (by rfl)) (by rfl) (by first | exact .inl rfl | exact .inr rfl | assumption)) (@pss_cons _ _ _ _ _ (@ps_for _ _ _ _ _ _ _ _ PassesOwn.never rfl (@pi_range1 _ _ _ _ _ _ rfl T.b_range (@pa_cons _ _ _ _ _ (@pe_op _ _ _ _ _ _ _ _ op_add (@pe_int _ _ _ _) (@pe_fn _ _ _ _ _ _ _ _ _ _ _ _ _ _ T.l_draw (ok_l_draw T) hr (by decide) (@pa_cons _ _ _ _ _ (pv 1) (@pa_cons _ _ _ _ _ (@pe_int _ _ _ _) (@pa_nil _) star_con) star_name) (by rfl) (by decide) (by rfl) (by rfl))) (@pa_nil _) star_bin) (by rfl)) (@pg_name _ _ 2 _ sc_law.nd rfl (Or.inl rfl) (by first | exact .inl rfl | exact .inr rfl | assumption)) (@pss_cons _ _ _ _ _ (@ps_set _ _ 3 _ _ _ _ sc_law.nd rfl (Or.inl rfl) (@pe_fn _ _ _ _ _ _ _ _ _ _ _ _ _ _ T.l_wish (ok_l_wish T) hr (by decide) (@pa_cons _ _ _ _ _ (pv 1) (@pa_cons _ _ _ _ _ (@pe_op _ _ _ _ _ _ _ _ op_add (@pe_int _ _ _ _) (@pe_fn _ _ _ _ _ _ _ _ _ _ _ _ _ _ T.l_draw (ok_l_draw T) hr (by decide) (@pa_cons _ _ _ _ _ (pv 1) (@pa_cons _ _ _ _ _ (@pe_int _ _ _ _) (@pa_nil _) star_con) star_name) (by rfl) (by decide) (by rfl) (by rfl))) (@pa_nil _) star_bin) star_name) (by rfl) (by decide) (by rfl) (by rfl)) (by rfl) (by first | exact .inl rfl | exact .inr rfl | assumption)) (@pss_cons _ _ _ _ _ (@ps_if _ _ _ _ _ _ _ _ (@pt_not _ _ _ _ (@pt_val _ _ _ (@pe_fn _ _ _ _ _ _ _ _ _ _ _ _ _ _ T.l_good (ok_l_good T) hr (by decide) (@pa_cons _ _ _ _ _ (pv 3) (@pa_nil _) star_name) (by rfl) (by decide) (by rfl) (by rfl)) (by intro _; rfl))) (@pss_one _ _ _ (@ps_ret _ _ _ _ (@pe_bl _ _ _ _))) (@pss_nil _)) (@pss_cons _ _ _ _ _ (@ps_for _ _ _ _ _ _ _ _ PassesOwn.never rfl (@pi_range1 _ _ _ _ _ _ rfl T.b_range (@pa_cons _ _ _ _ _ (@pe_op _ _ _ _ _ _ _ _ op_sub (@pe_int _ _ _ _) (@pe_fn _ _ _ _ _ _ _ _ _ _ _ _ _ _ T.l_deep (ok_l_deep T) hr (by decide) (@pa_cons _ _ _ _ _ (pv 3) (@pa_nil _) star_name) (by rfl) (by decide) (by rfl) (by rfl))) (@pa_nil _) star_bin) (by rfl)) (@pg_name _ _ 4 _ sc_law.nd rfl (Or.inl rfl) (by first | exact .inl rfl | exact .inr rfl | assumption)) (@pss_one _ _ _ (@ps_set _ _ 3 _ _ _ _ sc_law.nd rfl (Or.inl rfl) (@pe_tup _ _ _ _ _ (@pa_cons _ _ _ _ _ (@pe_str _ _ _ _) (@pa_cons _ _ _ _ _ (pv 3) (@pa_nil _) star_name) star_con)) (by rfl) (by first | exact .inl rfl | exact .inr rfl | assumption))) (by intro _; rfl)) (@pss_cons _ _ _ _ _ (@ps_set _ _ 5 _ _ _ _ sc_law.nd rfl (Or.inl rfl) (@pe_tup _ _ _ _ _ (@pa_cons _ _ _ _ _ (@pe_str _ _ _ _) (@pa_cons _ _ _ _ _ (pv 3) (@pa_nil _) star_name) star_con)) (by rfl) (by first | exact .inl rfl | exact .inr rfl | assumption)) (@pss_cons _ _ _ _ _ (@ps_if _ _ _ _ _ _ _ _ (@pt_cmpR _ _ _ _ _ _ _ _ op_eq (@pe_fn _ _ _ _ _ _ _ _ _ _ _ _ _ _ T.l_draw (ok_l_draw T) hr (by decide) (@pa_cons _ _ _ _ _ (pv 1) (@pa_cons _ _ _ _ _ (@pe_int _ _ _ _) (@pa_nil _) star_con) star_name) (by rfl) (by decide) (by rfl) (by rfl)) (@pe_int _ _ _ _) (nomark _)) (@pss_one _ _ _ (@ps_set _ _ 5 _ _ _ _ sc_law.nd rfl (Or.inl rfl) (@pe_tup _ _ _ _ _ (@pa_cons _ _ _ _ _ (@pe_str _ _ _ _) (@pa_cons _ _ _ _ _ (@pe_tup _ _ _ _ _ (@pa_cons _ _ _ _ _ (@pe_str _ _ _ _) (@pa_cons _ _ _ _ _ (@pe_int _ _ _ _) (@pa_nil _) star_con) star_con)) (@pa_cons _ _ _ _ _ (pv 3) (@pa_nil _) star_name) star_tup) star_con)) (by rfl) (by first | exact .inl rfl | exact .inr rfl | assumption))) (@pss_nil _)) (@pss_cons _ _ _ _ _ (@ps_if _ _ _ _ _ _ _ _ (PW.pt (@pw_or _ _ _ _ _ _ _ (@pt_not _ _ _ _ (@pt_val _ _ _ (@pe_fn _ _ _ _ _ _ _ _ _ _ _ _ _ _ T.l_good (ok_l_good T) hr (by decide) (@pa_cons _ _ _ _ _ (pv 3) (@pa_nil _) star_name) (by rfl) (by decide) (by rfl) (by rfl)) (by intro _; rfl))) (@pw_or _ _ _ _ _ _ _ (@pt_not _ _ _ _ (@pt_val _ _ _ (@pe_fn _ _ _ _ _ _ _ _ _ _ _ _ _ _ T.l_bad (ok_l_bad T) hr (by decide) (@pa_cons _ _ _ _ _ (pv 5) (@pa_nil _) star_name) (by rfl) (by decide) (by rfl) (by rfl)) (by intro _; rfl))) (@pw_or1 _ _ _ _ (@pt_not _ _ _ _ (@pt_val _ _ _ (@pe_fn _ _ _ _ _ _ _ _ _ _ _ _ _ _ T.l_unread (ok_l_unread T) hr (by decide) (@pa_cons _ _ _ _ _ (@pe_fn _ _ _ _ _ _ _ _ _ _ _ _ _ _ T.l_written (ok_l_written T) hr (by decide) (@pa_cons _ _ _ _ _ (pv 5) (@pa_nil _) star_name) (by rfl) (by decide) (by rfl) (by rfl)) (@pa_nil _) star_call) (by rfl) (by decide) (by rfl) (by rfl)) (by intro _; rfl))))))) (@pss_one _ _ _ (@ps_ret _ _ _ _ (@pe_bl _ _ _ _))) (@pss_nil _)) (@pss_cons _ _ _ _ _ (@ps_if _ _ _ _ _ _ _ _ (@pt_not _ _ _ _ (@pt_val _ _ _ (@pe_fn _ _ _ _ _ _ _ _ _ _ _ _ _ _ T.l_unread (ok_l_unread T) hr (by decide) (@pa_cons _ _ _ _ _ (@pe_op _ _ _ _ _ _ _ _ op_add_str (@pe_op _ _ _ _ _ _ _ _ op_mulS (@pe_str _ _ _ _) (@pe_ix _ _ _ _ _ _ _ ix_list (@pe_lst _ _ _ _ (@pa_cons _ _ _ _ _ (@pe_int _ _ _ _) (@pa_cons _ _ _ _ _ (@pe_int _ _ _ _) (@pa_cons _ _ _ _ _ (@pe_int _ _ _ _) (@pa_nil _) star_con) star_con) star_con)) (@pe_fn _ _ _ _ _ _ _ _ _ _ _ _ _ _ T.l_draw (ok_l_draw T) hr (by decide) (@pa_cons _ _ _ _ _ (pv 1) (@pa_cons _ _ _ _ _ (@pe_int _ _ _ _) (@pa_nil _) star_con) star_name) (by rfl) (by decide) (by rfl) (by rfl)) (fun _ _ => rfl))) (@pe_fn _ _ _ _ _ _ _ _ _ _ _ _ _ _ T.l_written (ok_l_written T) hr (by decide) (@pa_cons _ _ _ _ _ (pv 3) (@pa_nil _) star_name) (by rfl) (by decide) (by rfl) (by rfl))) (@pa_nil _) star_bin) (by rfl) (by decide) (by rfl) (by rfl)) (by intro _; rfl))) (@pss_one _ _ _ (@ps_ret _ _ _ _ (@pe_bl _ _ _ _))) (@pss_nil _)) (@pss_cons _ _ _ _ _ (@ps_set _ _ 6 _ _ _ _ sc_law.nd rfl (Or.inl rfl) (@pe_tup _ _ _ _ _ (@pa_cons _ _ _ _ _ (@pe_str _ _ _ _) (@pa_cons _ _ _ _ _ (@pe_fn _ _ _ _ _ _ _ _ _ _ _ _ _ _ T.l_name (ok_l_name T) hr (by decide) (@pa_cons _ _ _ _ _ (pv 1) (@pa_nil _) star_name) (by rfl) (by decide) (by rfl) (by rfl)) (@pa_cons _ _ _ _ _ (@pe_op _ _ _ _ _ _ _ _ op_add (@pe_op _ _ _ _ _ _ _ _ op_pow (@pe_int _ _ _ _) (@pe_int _ _ _ _)) (@pe_fn _ _ _ _ _ _ _ _ _ _ _ _ _ _ T.l_draw (ok_l_draw T) hr (by decide) (@pa_cons _ _ _ _ _ (pv 1) (@pa_cons _ _ _ _ _ (@pe_op _ _ _ _ _ _ _ _ op_pow (@pe_int _ _ _ _) (@pe_int _ _ _ _)) (@pa_nil _) star_bin) star_name) (by rfl) (by decide) (by rfl) (by rfl))) (@pa_nil _) star_bin) star_call) star_con)) (by rfl) (by first | exact .inl rfl | exact .inr rfl | assumption)) (@pss_cons _ _ _ _ _ (@ps_if _ _ _ _ _ _ _ _ (PW.pt (@pw_or _ _ _ _ _ _ _ (@pt_cmpR _ _ _ _ _ _ _ _ op_ne (@pe_fnX _ _ _ _ _ _ _ _ _ _ _ _ _ _ _ _ _ T.show_wish (okx_show_wish T) hr (by decide) passE (@pa_cons _ _ _ _ _ (pv 6) (@pa_nil _) star_name) (by rfl) (by decide) (by rfl) (by rfl)) (@pe_fn _ _ _ _ _ _ _ _ _ _ _ _ _ _ T.l_written (ok_l_written T) hr (by decide) (@pa_cons _ _ _ _ _ (pv 6) (@pa_nil _) star_name) (by rfl) (by decide) (by rfl) (by rfl)) (nomark _)) (@pw_or1 _ _ _ _ (@pt_not _ _ _ _ (@pt_val _ _ _ (@pe_fn _ _ _ _ _ _ _ _ _ _ _ _ _ _ T.l_unread (ok_l_unread T) hr (by decide) (@pa_cons _ _ _ _ _ (@pe_fn _ _ _ _ _ _ _ _ _ _ _ _ _ _ T.l_written (ok_l_written T) hr (by decide) (@pa_cons _ _ _ _ _ (pv 6) (@pa_nil _) star_name) (by rfl) (by decide) (by rfl) (by rfl)) (@pa_nil _) star_call) (by rfl) (by decide) (by rfl) (by rfl)) (by intro _; rfl)))))) (@pss_one _ _ _ (@ps_ret _ _ _ _ (@pe_bl _ _ _ _))) (@pss_nil _)) (@pss_one _ _ _ (@ps_if _ _ _ _ _ _ _ _ (@pt_not _ _ _ _ (@pt_val _ _ _ (@pe_fn _ _ _ _ _ _ _ _ _ _ _ _ _ _ T.l_bad (ok_l_bad T) hr (by decide) (@pa_cons _ _ _ _ _ (@pe_fn _ _ _ _ _ _ _ _ _ _ _ _ _ _ T.l_no_wish (ok_l_no_wish T) hr (by decide) (@pa_cons _ _ _ _ _ (pv 1) (@pa_cons _ _ _ _ _ (pv 3) (@pa_nil _) star_name) star_name) (by rfl) (by decide) (by rfl) (by rfl)) (@pa_nil _) star_call) (by rfl) (by decide) (by rfl) (by rfl)) (by intro _; rfl))) (@pss_one _ _ _ (@ps_ret _ _ _ _ (@pe_bl _ _ _ _))) (@pss_nil _)))))))))))) (by intro _; rfl)) (@pss_one _ _ _ (@ps_ret _ _ _ _ (@pe_bl _ _ _ _))))), ?_⟩
    refine st_setG (gv_call (R := fun v H' => ∃ hd sc, v = .ref hd ∧ HandAt H' hd sc) (pa_c (pu_v rfl) pa_n) fun Q f => ⟨sa, ns, rfl, hS, fun hd sc H' s n hh => f _ _ ⟨hd, sc, rfl, hh⟩⟩) ?_
    rintro _ H1 ⟨hd, sc, rfl, hh1⟩
    refine st_rangeG (ga_cons (gv_draw1 (m := 4) hh1 (pa_c (pu_v rfl) (pa_c pu_c pa_n)) (by decide) Bd.small) fun _ _ _ => ga_nil) ?_
    rintro vs H2 ⟨_, _, r, rfl, ⟨⟨n, rfl, n0, n1⟩, hh2, _⟩, rfl, rfl⟩
    refine ⟨n, rfl, by omega, by omega, fun i σ H' => HandAt H' hd sc ∧ ∃ c d e f g : Option V, σ = [some (.ref sa), some (.ref hd), c, d, e, f, g], ⟨hh2, _, _, _, _, _, rfl⟩, ?_, ?_⟩
    · rintro i σ H3 hi ⟨hh3, c, d, e, f, g, rfl⟩
      refine st_setG (R := fun v H' => ∃ u : Wi, DAt hd H' v u.d ∧ u.names ∧ u.nums small ∧ u.deep ≤ 6 ∧ HandAt H' hd sc) (gv_callA (ga_cons (Pu.gv (v := .ref hd) (pu_v rfl)) fun _ _ e1 => ga_cons (R1 := fun v H' => (∃ n : Int, v = .int n ∧ 0 < n ∧ n ≤ 6) ∧ HandAt H' hd sc ∧ SameB hd H3 H') (by obtain ⟨rfl, rfl⟩ := e1; exact gv_draw1 hh3 (pa_c (pu_v rfl) (pa_c pu_c pa_n)) (by decide) Bd.small) fun _ _ _ => ga_nil) ?_) ?_
      · rintro _ H4 ⟨_, _, r, rfl, ⟨rfl, rfl⟩, _, _, r2, rfl, ⟨⟨m, rfl, m0, m1⟩, hh4, _⟩, rfl, rfl⟩ Q q
        refine ⟨m.toNat, by omega, hd, sc, ?_, by omega, hh4, fun v u H' h1 h2 h3 h4 h5 _ => q _ _ ⟨u, h1, h2, h3, by omega, h5⟩⟩
        rw [show ((m.toNat : Nat) : Int) = m by omega]
        rfl
      rintro v4 H4 ⟨u0, hv4, nn0, nk0, dp0, hh4⟩
      refine st_ifNG (gt_nt (R := fun H' => Same H4 H') (gv_call (pa_c (pu_v rfl) pa_n) fun Q q => ⟨hd, v4, u0, rfl, hv4, dp0, nn0, nk0, fun H' s => q _ _ ⟨rfl, s⟩⟩)) (fun _ e => by cases e.1) ?_
      rintro H5 ⟨_, s5⟩
      have hv5 := hv4.same s5
      have hh5 := hh4.same s5
      refine st_rangeG (ga_cons (R1 := fun v H' => v = .int (6 - (u0.deep : Int)) ∧ Same H5 H') (fun Q q => pu_c (v := .int 6) _ (gv_call (sp := sp_l_deep 7) (E := E0) (R := fun v H' => v = .int ((u0.deep : Nat) : Int) ∧ Same H5 H') (pa_c (pu_v rfl) pa_n) (fun Q q => ⟨hd, v4, u0, rfl, hv5, by omega, fun H' s => q _ _ ⟨rfl, s⟩⟩) _ fun v' H' r => by
        obtain ⟨rfl, s'⟩ := r
        exact ⟨6, _, rfl, rfl, q _ _ ⟨rfl, s'⟩⟩)) fun _ _ _ => ga_nil) ?_
      rintro vs H6 ⟨_, _, r, rfl, ⟨rfl, s6⟩, rfl, rfl⟩
      have hh6 := hh5.same s6
      have p0 := u0.deep_pos
      refine ⟨6 - (u0.deep : Int), rfl, by omega, by omega, fun j σ H' => HandAt H' hd sc ∧ ∃ (v : V) (u : Wi) (z : Option V), DAt hd H' v u.d ∧ u.names ∧ u.nums small ∧ u.deep = u0.deep + j ∧ σ = [some (.ref sa), some (.ref hd), some (.int (0 + (i : Int))), some v, z, f, g], ⟨hh6, v4, u0, _, hv5.same s6, nn0, nk0, rfl, rfl⟩, ?_, ?_⟩
      · rintro j σ H7 hj ⟨hh7, v, u, z, hv7, nn, nk, dp, rfl⟩
        refine st_setG1 (gv_tup (pa_c pu_c (pa_c (pu_v rfl) pa_n)) len2) ?_
        rintro _ _ ⟨a, ha, rfl, rfl⟩
        exact ⟨hh7.same (Same.upd ha), .ref a, .no u, _, .tup upd_same (.cons (.str _ (by decide +kernel)) (.cons (hv7.same (Same.upd ha)) .nil)), nn, nk, by simp only [Wi.deep]; omega, rfl⟩
      rintro σ H7 ⟨hh7, v, u, z, hv7, nn, nk, dp, rfl⟩
      have d6 : u.deep = 6 := by omega
      have nb := nums_mono small_bd u nk
      have tl := Wi.text_len 6 u (by omega) nn nb
      have wl := words_len 6 u (by omega)
      refine st_setG (gv_tup (pa_c pu_c (pa_c (pu_v rfl) pa_n)) len2) ?_
      rintro _ _ ⟨a, ha, rfl, rfl⟩
      have s8 : Same H7 (upd H7 a (.tup [.str (Str.ofString "no"), v])) := Same.upd ha
      have hv8 := hv7.same s8
      have hno : DAt hd (upd H7 a (.tup [.str (Str.ofString "no"), v])) (.ref a) (Wi.no u).d := .tup upd_same (.cons (.str _ (by decide +kernel)) (.cons hv8 .nil))
      have hh8 := hh7.same s8
      revert hv8 hno hh8
      generalize upd H7 a (.tup [.str (Str.ofString "no"), v]) = H8
      intro hv8 hno hh8
      obtain ⟨ys8, hys8⟩ := hh8.ls
      refine st_ifRG (RB := fun _ H' => HandAt H' hd sc ∧ SameB hd H8 H') (fun σ' H' => HandAt H' hd sc ∧ DAt hd H' v u.d ∧ ∃ (vd : V) (ud : Wi), DAt hd H' vd ud.d ∧ ud.names ∧ ud.nums small ∧ ud.deep = 7 ∧ σ' = [some (.ref sa), some (.ref hd), some (.int (0 + (i : Int))), some v, z, some vd, g]) (fun Q q => ?_) (fun H9 r D' q _ => ?_) (fun H9 r => ⟨r.1, DAt.but hys8 r.2 hv8, .ref a, .no u, DAt.but hys8 r.2 hno, nn, nk, by simp only [Wi.deep]; omega, rfl⟩) ?_
      · refine gv_draw hh8 (pa_c (pu_v rfl) (pa_c pu_c pa_n)) (by decide) Bd.small _ ?_
        rintro _ H9 ⟨⟨m, rfl, _, _⟩, hh9, s9⟩
        exact ⟨rfl, _, rfl, q _ _ ⟨hh9, s9⟩⟩
      · have hv9 := DAt.but hys8 r.2 hv8
        refine st_setG1 ((de_tup (ds := [sW "any", .tup [sW "least", .int 0], u.d]) (da_c (de_s (x := Str.ofString "any") (by decide +kernel)) (da_c (de_tup (da_c (de_s (x := Str.ofString "least") (by decide +kernel)) (da_c de_i da_n))) (da_c (de_v rfl hv9) da_n)))) H9 Same.rfl') ?_
        rintro vd H10 ⟨s10, hvd⟩
        exact q _ _ ⟨r.1.same s10, hv9.same s10, vd, .any (.lst 0) u, hvd, ⟨trivial, nn⟩, ⟨by show (0 : Int).natAbs < 10 ^ 60; decide, nk⟩, by simp only [Wi.deep]; omega, rfl⟩
      rintro _ H9 ⟨hh9, hv9, vd, ud, hvd, nnd, nkd, dpd, rfl⟩
      have nbd := nums_mono small_bd ud nkd
      have tld := Wi.text_len 7 ud (by omega) nnd nbd
      have wld := words_len 7 ud (by omega)
      refine st_ifNG (R := fun b H' => b = false ∧ Same H9 H') (gt_or (gt_nt (R := fun H' => Same H9 H') (gv_call (pa_c (pu_v rfl) pa_n) fun Q q => ⟨hd, v, u, rfl, hv9, by omega, nn, nk, fun H' s => q _ _ ⟨rfl, s⟩⟩)) (fun H10 e => gt_or (R := fun b H' => b = false ∧ Same H9 H') ((gt_nt (R := fun H' => Same H10 H') (gv_call (pa_c (pu_v rfl) pa_n) fun Q q => ⟨hd, vd, ud.d, rfl, hvd.same e.2, by rw [ud.isW_d 6 nnd, decide_eq_false (by omega)], fun H' s => q _ _ ⟨rfl, s⟩⟩)).imp fun b H' z => ⟨z.1, e.2.trans z.2⟩) (fun H11 z => (gt_nt (R := fun H' => Same H11 H') (gv_unr (gv_wr (pa_c (pu_v rfl) pa_n) (hvd.same z.2) (by omega) nnd nbd) (Nat.le_trans tld (by decide)) (Nat.le_trans (Nat.le_of_succ_le wld) (by decide)) nnd nbd (fun q => by have := q.1; omega))).imp fun b H' q => ⟨q.1, z.2.trans q.2⟩) (fun _ z => by cases z.1)) (fun _ z => by cases z.1)) (fun _ z => by cases z.1) ?_
      rintro H10 ⟨_, s10⟩
      have hh10 := hh9.same s10
      have hv10 := hv9.same s10
      obtain ⟨ys10, hys10⟩ := hh10.ls
      refine st_ifNG (gt_nt (R := fun H' => HandAt H' hd sc ∧ SameB hd H10 H') (gv_callA (RA := fun vs H' => ∃ m : Nat, 1 ≤ m ∧ m ≤ 2000 ∧ vs = [.str (noN m u).text] ∧ HandAt H' hd sc ∧ SameB hd H10 H') (fun Q q => ga_cons (R1 := fun r H' => ∃ m : Nat, 1 ≤ m ∧ m ≤ 2000 ∧ r = .str (noN m u).text ∧ HandAt H' hd sc ∧ SameB hd H10 H') (gv_opG (R1 := fun r H' => ∃ m : Int, 0 < m ∧ m ≤ 2000 ∧ r = .str (Txt.mul (Str.ofString "no ") m) ∧ DAt hd H' v u.d ∧ HandAt H' hd sc ∧ SameB hd H10 H') (R2 := fun x y H' => ∃ m : Int, 0 < m ∧ m ≤ 2000 ∧ x = .str (Txt.mul (Str.ofString "no ") m) ∧ y = .str u.text ∧ HandAt H' hd sc ∧ SameB hd H10 H') (gv_opG (R1 := fun r H' => r = .str (Str.ofString "no ") ∧ H10 = H') (R2 := fun x y H' => x = .str (Str.ofString "no ") ∧ ∃ m : Int, 0 < m ∧ m ≤ 2000 ∧ y = .int m ∧ DAt hd H' v u.d ∧ HandAt H' hd sc ∧ SameB hd H10 H') (Pu.gv' pu_c ⟨rfl, rfl⟩) (fun x H1 e Q q => ?_) ?_) (fun x H1 e => ?_) ?_) (fun _ _ _ => ga_nil) _ fun vs H' r => ?_) ?_)) (fun _ e => by cases e.1) ?_
      · obtain ⟨rfl, rfl⟩ := e
        refine gv_lst (vs := [.int 1, .int 7, .int 2000]) (pa_c pu_c (pa_c pu_c (pa_c pu_c pa_n))) len3 _ ?_
        rintro _ _ ⟨p, hp, rfl, rfl⟩
        refine gv_draw (m := 3) (hh10.same (Same.upd hp)) (pa_c (pu_v rfl) (pa_c pu_c pa_n)) (by decide) Bd.small _ ?_
        rintro _ H11 ⟨⟨j, rfl, j0, j1⟩, hh11, s11⟩
        have hp11 : H11 p = some (.lst [.int 1, .int 7, .int 2000]) := s11 _ _ upd_same (Ne.symm (ne_of_none hys10 hp))
        have hv11 : DAt hd H11 v u.d := DAt.but (Same.upd hp _ _ hys10) s11 (hv10.same (Same.upd hp))
        have hj : ∃ m : Int, 0 < m ∧ m ≤ 2000 ∧ atI [V.int 1, V.int 7, V.int 2000] j = some (.int m) := by
          have : j = 0 ∨ j = 1 ∨ j = 2 := by omega
          rcases this with z | z | z
          · exact ⟨1, by decide, by decide, by rw [z]; rfl⟩
          · exact ⟨7, by decide, by decide, by rw [z]; rfl⟩
          · exact ⟨2000, by decide, by decide, by rw [z]; rfl⟩
        obtain ⟨m, m0, m1, hat⟩ := hj
        exact ⟨p, _, _, _, rfl, rfl, SqL.of hp11, hat, q _ _ ⟨rfl, m, m0, m1, rfl, hv11, hh11, (Same.upd hp).b.trans s11⟩⟩
      · rintro _ _ H11 ⟨rfl, m, m0, m1, rfl, hv11, hh11, s11⟩ Q q
        exact ⟨_, m, rfl, rfl, mul_ok m0 m1, q _ _ ⟨m, m0, m1, rfl, hv11, hh11, s11⟩⟩
      · obtain ⟨m, m0, m1, rfl, hv11, hh11, s11⟩ := e
        exact (gv_wr (u := u) (hd := hd) (pa_c (pu_v rfl) pa_n) hv11 (by omega) nn nb).imp fun r H' e => ⟨m, m0, m1, rfl, e.1, hh11.same e.2, s11.trans e.2.b⟩
      · rintro _ _ H12 ⟨m, m0, m1, rfl, rfl, hh12, s12⟩ Q q
        refine ⟨_, _, rfl, rfl, ?_, q _ _ ⟨m.toNat, by omega, by omega, by rw [mul_text m0 u], hh12, s12⟩⟩
        rw [← app_len, mul_text m0 u, noN_len]
        have : sizeLine = 16777216 := by decide
        omega
      · obtain ⟨_, _, _, rfl, ⟨m, m0, m1, rfl, hh11, s11⟩, rfl, rfl⟩ := r
        exact q _ _ ⟨m, m0, m1, rfl, hh11, s11⟩
      · rintro _ H11 ⟨m, m0, m1, rfl, hh11, s11⟩ Q q
        refine ⟨noN m u, rfl, ?_, ?_, noN_names m u nn, noN_nums m u nb, fun z => ?_, fun H' s => q _ _ ⟨rfl, hh11.same s, s11.trans s.b⟩⟩
        · rw [noN_len]; omega
        · rw [noN_words]; omega
        · have := z.1
          rw [noN_deep] at this
          omega
      rintro H11 ⟨_, hh11, s11⟩
      have hv11 : DAt hd H11 v u.d := DAt.but hys10 s11 hv10
      obtain ⟨ys11, hys11⟩ := hh11.ls
      have P60 : ∀ {σ : L2.St} {H' : Hp}, Pu (tOp (rI CPow fun i j => .int (i ^ j.toNat)) (tC (.int 10)) (tC (.int 60))) σ H' (.int (10 ^ 60)) := pu_pow pu_c pu_c ⟨by decide, by decide, by decide⟩
      have B60 : Bd 9000 (10 ^ 60 : Int) := by unfold Bd; decide +kernel
      refine st_setG (R := fun r H' => ∃ (x : Str) (z : Int), DAt hd H' r (Wi.rnd x z).d ∧ nameOk x = true ∧ 10 ^ 60 ≤ z ∧ z < 2 * 10 ^ 60 ∧ HandAt H' hd sc ∧ SameB hd H11 H') (gv_tupA (RA := fun vs H' => ∃ (x : Str) (z : Int), vs = [.str (Str.ofString "round"), .str x, .int z] ∧ nameOk x = true ∧ 10 ^ 60 ≤ z ∧ z < 2 * 10 ^ 60 ∧ HandAt H' hd sc ∧ SameB hd H11 H') (fun Q2 q2 => pu_c (v := .str (Str.ofString "round")) _ (gv_name hh11 (pa_c (pu_v rfl) pa_n) _ ?_)) ?_) ?_
      · rintro _ H12 ⟨⟨x, rfl, nx⟩, hh12, s12⟩
        refine P60 _ (gv_draw hh12 (pa_c (pu_v rfl) (pa_c P60 pa_n)) (by decide) B60 _ ?_)
        rintro _ H13 ⟨⟨m, rfl, m0, m1⟩, hh13, s13⟩
        exact ⟨10 ^ 60, m, rfl, rfl, q2 _ _ ⟨x, 10 ^ 60 + m, rfl, nx, by omega, by omega, hh13, s12.trans s13⟩⟩
      · rintro _ H12 ⟨x, z, rfl, nx, z0, z1, hh12, s12⟩
        exact ⟨len3, fun a ha => ⟨x, z, .tup upd_same (.cons (.str _ (by decide +kernel)) (.cons (.str _ (nAsc nx)) (.cons (.int z) .nil))), nx, z0, z1, hh12.same (Same.upd ha), s12.trans (Same.upd ha).b⟩⟩
      rintro vf H12 ⟨x, z, hvf, nx, z0, z1, hh12, s12⟩
      have bz : Bd 700 z := by
        unfold Bd
        have : (2 : Int) * 10 ^ 60 < 2 ^ 700 := by decide +kernel
        omega
      have nzf : (Wi.rnd x z).nums (Bd 700) := bz
      have nxf : (Wi.rnd x z).names := nx
      have dpf : (Wi.rnd x z).deep = 1 := rfl
      have tlf := Wi.text_len 1 (Wi.rnd x z) (by omega) nxf nzf
      have badf : ¬ rd 6 (Wi.rnd x z) := fun q => by
        have h2 : z.natAbs < 10 ^ 60 := q.2
        omega
      refine st_ifNG (R := fun b H' => b = false ∧ Same H12 H') (gt_or (R := fun b H' => b = false ∧ Same H12 H') ((gt_neStr2 (x := (Wi.rnd x z).text) (y := (Wi.rnd x z).text) (gv_call (sp := spx_show_wish t) (E := E0) (pa_c (pu_v rfl) pa_n) fun Q q => ⟨hd, vf, _, rfl, hvf, .inl ⟨.rnd x z, rfl, by omega, nxf, nzf, fun H' s => q _ _ ⟨rfl, s⟩⟩⟩) fun H' s => gv_wr (pa_c (pu_v rfl) pa_n) (hvf.same s) (by omega) nxf nzf).imp fun b H' e => ⟨by rw [e.1]; simp, e.2⟩) (fun H13 e => (gt_nt (R := fun H' => Same H13 H') (gv_unr (gv_wr (pa_c (pu_v rfl) pa_n) (hvf.same e.2) (by omega) nxf nzf) (Nat.le_trans tlf (by decide)) (show 3 ≤ 100000 by decide) nxf nzf badf)).imp fun b H' q => ⟨q.1, e.2.trans q.2⟩) (fun _ e => by cases e.1)) (fun _ e => by cases e.1) ?_
      rintro H13 ⟨_, s13⟩
      have hh13 := hh12.same s13
      have hv13 : DAt hd H13 v u.d := (DAt.but hys11 s12 hv11).same s13
      refine st_ifNG1 (gt_nt (R := fun H' => HandAt H' hd sc) (gv_callA (ga_cons (R1 := fun r H' => ∃ d, DAt hd H' r d ∧ isW 6 d = false ∧ HandAt H' hd sc) (gv_call (sp := sp_l_no_wish) (E := E0) (pa_c (pu_v rfl) (pa_c (pu_v rfl) pa_n)) fun Q q => ⟨hd, sc, v, u, rfl, hh13, hv13, nn, by omega, fun r d H' h1 h2 h3 _ => q _ _ ⟨d, h1, h2, h3⟩⟩) fun _ _ _ => ga_nil) ?_)) (fun _ e => by cases e.1) fun H14 e => ⟨e.2, _, _, _, _, _, rfl⟩
      rintro _ H14 ⟨r, _, rs, rfl, ⟨d', h1, h2, h3⟩, rfl, rfl⟩ Q q
      exact ⟨hd, r, d', rfl, h1, h2, fun H' s => q _ _ ⟨rfl, h3.same s⟩⟩
    · rintro σ H3 ⟨hh3, c, d, e, f, g, rfl⟩
      exact st_ret pu_c (k _)
end
theorem all_mk {l : PySem.W.OpenLaw} {w : World} {K : PySem.W.Frag} {h : Heap} {mg : Str → Option Value} {fa : Addr} (X : K.In h) (G : h.Ns mainGlobals mg) (hfa : mg "law" = some (.ref fa))
    {g0 : Addr} (u0 : PySem.W.nsIn K mainGlobals "SHAPES" = some (some (.ref g0)))
    {g1 : Addr} (u1 : PySem.W.nsIn K mainGlobals "PlyError" = some (some (.ref g1)))
    {g2 : Addr} (u2 : PySem.W.nsIn K mainGlobals "BadWish" = some (some (.ref g2)))
    {g3 : Addr} (u3 : PySem.W.nsIn K mainGlobals "NoText" = some (some (.ref g3)))
    {f0 : Addr} {od0 an0 : Option Addr} {sl0 : Array (Option Value)} {oc0 kV0 dc0 pm0 cd0 ct0 : Value}
    (a0 : PySem.W.nsIn K mainGlobals "is_name" = some (some (.ref f0))) (l0 : K.lookup f0 = some ⟨oc0, od0, .func (PySem.W.fnOf "is_name" "is_name" (defArgs s_is_name) (defBody s_is_name) (defScope s_is_name) .none kV0 dc0 pm0 an0 cd0 ct0), sl0⟩) (c0 : PySem.W.codeIn K cd0 "is_name" = true) (k0 : PySem.W.keepIn K (.ref f0) = true)
    {f1 : Addr} {od1 an1 : Option Addr} {sl1 : Array (Option Value)} {oc1 kV1 dc1 pm1 cd1 ct1 : Value}
    (a1 : PySem.W.nsIn K mainGlobals "is_whole" = some (some (.ref f1))) (l1 : K.lookup f1 = some ⟨oc1, od1, .func (PySem.W.fnOf "is_whole" "is_whole" (defArgs s_is_whole) (defBody s_is_whole) (defScope s_is_whole) .none kV1 dc1 pm1 an1 cd1 ct1), sl1⟩) (c1 : PySem.W.codeIn K cd1 "is_whole" = true) (k1 : PySem.W.keepIn K (.ref f1) = true)
    {f2 : Addr} {od2 an2 : Option Addr} {sl2 : Array (Option Value)} {oc2 kV2 dc2 pm2 cd2 ct2 : Value}
    (a2 : PySem.W.nsIn K mainGlobals "shape_of" = some (some (.ref f2))) (l2 : K.lookup f2 = some ⟨oc2, od2, .func (PySem.W.fnOf "shape_of" "shape_of" (defArgs s_shape_of) (defBody s_shape_of) (defScope s_shape_of) .none kV2 dc2 pm2 an2 cd2 ct2), sl2⟩) (c2 : PySem.W.codeIn K cd2 "shape_of" = true) (k2 : PySem.W.keepIn K (.ref f2) = true)
    {f3 : Addr} {od3 an3 : Option Addr} {sl3 : Array (Option Value)} {oc3 kV3 dc3 pm3 cd3 ct3 : Value}
    (a3 : PySem.W.nsIn K mainGlobals "is_part" = some (some (.ref f3))) (l3 : K.lookup f3 = some ⟨oc3, od3, .func (PySem.W.fnOf "is_part" "is_part" (defArgs s_is_part) (defBody s_is_part) (defScope s_is_part) .none kV3 dc3 pm3 an3 cd3 ct3), sl3⟩) (c3 : PySem.W.codeIn K cd3 "is_part" = true) (k3 : PySem.W.keepIn K (.ref f3) = true)
    {f4 : Addr} {od4 an4 : Option Addr} {sl4 : Array (Option Value)} {oc4 kV4 dc4 pm4 cd4 ct4 : Value}
    (a4 : PySem.W.nsIn K mainGlobals "is_wish_within" = some (some (.ref f4))) (l4 : K.lookup f4 = some ⟨oc4, od4, .func (PySem.W.fnOf "is_wish_within" "is_wish_within" (defArgs s_is_wish_within) (defBody s_is_wish_within) (defScope s_is_wish_within) .none kV4 dc4 pm4 an4 cd4 ct4), sl4⟩) (c4 : PySem.W.codeIn K cd4 "is_wish_within" = true) (k4 : PySem.W.keepIn K (.ref f4) = true)
    {f5 : Addr} {od5 an5 : Option Addr} {sl5 : Array (Option Value)} {oc5 kV5 dc5 pm5 cd5 ct5 : Value}
    (a5 : PySem.W.nsIn K mainGlobals "is_wish" = some (some (.ref f5))) (l5 : K.lookup f5 = some ⟨oc5, od5, .func (PySem.W.fnOf "is_wish" "is_wish" (defArgs s_is_wish) (defBody s_is_wish) (defScope s_is_wish) .none kV5 dc5 pm5 an5 cd5 ct5), sl5⟩) (c5 : PySem.W.codeIn K cd5 "is_wish" = true) (k5 : PySem.W.keepIn K (.ref f5) = true)
    {f6 : Addr} {od6 an6 : Option Addr} {sl6 : Array (Option Value)} {oc6 kV6 dc6 pm6 cd6 ct6 : Value}
    (a6 : PySem.W.nsIn K mainGlobals "check_wish" = some (some (.ref f6))) (l6 : K.lookup f6 = some ⟨oc6, od6, .func (PySem.W.fnOf "check_wish" "check_wish" (defArgs s_check_wish) (defBody s_check_wish) (defScope s_check_wish) .none kV6 dc6 pm6 an6 cd6 ct6), sl6⟩) (c6 : PySem.W.codeIn K cd6 "check_wish" = true) (k6 : PySem.W.keepIn K (.ref f6) = true)
    {f7 : Addr} {od7 an7 : Option Addr} {sl7 : Array (Option Value)} {oc7 kV7 dc7 pm7 cd7 ct7 : Value}
    (a7 : PySem.W.nsIn K mainGlobals "show_part" = some (some (.ref f7))) (l7 : K.lookup f7 = some ⟨oc7, od7, .func (PySem.W.fnOf "show_part" "show_part" (defArgs s_show_part) (defBody s_show_part) (defScope s_show_part) .none kV7 dc7 pm7 an7 cd7 ct7), sl7⟩) (c7 : PySem.W.codeIn K cd7 "show_part" = true) (k7 : PySem.W.keepIn K (.ref f7) = true)
    {f8 : Addr} {od8 an8 : Option Addr} {sl8 : Array (Option Value)} {oc8 kV8 dc8 pm8 cd8 ct8 : Value}
    (a8 : PySem.W.nsIn K mainGlobals "words_of_wish" = some (some (.ref f8))) (l8 : K.lookup f8 = some ⟨oc8, od8, .func (PySem.W.fnOf "words_of_wish" "words_of_wish" (defArgs s_words_of_wish) (defBody s_words_of_wish) (defScope s_words_of_wish) .none kV8 dc8 pm8 an8 cd8 ct8), sl8⟩) (c8 : PySem.W.codeIn K cd8 "words_of_wish" = true) (k8 : PySem.W.keepIn K (.ref f8) = true)
    {f9 : Addr} {od9 an9 : Option Addr} {sl9 : Array (Option Value)} {oc9 kV9 dc9 pm9 cd9 ct9 : Value}
    (a9 : PySem.W.nsIn K mainGlobals "show_wish" = some (some (.ref f9))) (l9 : K.lookup f9 = some ⟨oc9, od9, .func (PySem.W.fnOf "show_wish" "show_wish" (defArgs s_show_wish) (defBody s_show_wish) (defScope s_show_wish) .none kV9 dc9 pm9 an9 cd9 ct9), sl9⟩) (c9 : PySem.W.codeIn K cd9 "show_wish" = true) (k9 : PySem.W.keepIn K (.ref f9) = true)
    {f10 : Addr} {od10 an10 : Option Addr} {sl10 : Array (Option Value)} {oc10 kV10 dc10 pm10 cd10 ct10 : Value}
    (a10 : PySem.W.nsIn K mainGlobals "check_text" = some (some (.ref f10))) (l10 : K.lookup f10 = some ⟨oc10, od10, .func (PySem.W.fnOf "check_text" "check_text" (defArgs s_check_text) (defBody s_check_text) (defScope s_check_text) .none kV10 dc10 pm10 an10 cd10 ct10), sl10⟩) (c10 : PySem.W.codeIn K cd10 "check_text" = true) (k10 : PySem.W.keepIn K (.ref f10) = true)
    {f11 : Addr} {od11 an11 : Option Addr} {sl11 : Array (Option Value)} {oc11 kV11 dc11 pm11 cd11 ct11 : Value}
    (a11 : PySem.W.nsIn K mainGlobals "read_whole" = some (some (.ref f11))) (l11 : K.lookup f11 = some ⟨oc11, od11, .func (PySem.W.fnOf "read_whole" "read_whole" (defArgs s_read_whole) (defBody s_read_whole) (defScope s_read_whole) .none kV11 dc11 pm11 an11 cd11 ct11), sl11⟩) (c11 : PySem.W.codeIn K cd11 "read_whole" = true) (k11 : PySem.W.keepIn K (.ref f11) = true)
    {f12 : Addr} {od12 an12 : Option Addr} {sl12 : Array (Option Value)} {oc12 kV12 dc12 pm12 cd12 ct12 : Value}
    (a12 : PySem.W.nsIn K mainGlobals "read_name" = some (some (.ref f12))) (l12 : K.lookup f12 = some ⟨oc12, od12, .func (PySem.W.fnOf "read_name" "read_name" (defArgs s_read_name) (defBody s_read_name) (defScope s_read_name) .none kV12 dc12 pm12 an12 cd12 ct12), sl12⟩) (c12 : PySem.W.codeIn K cd12 "read_name" = true) (k12 : PySem.W.keepIn K (.ref f12) = true)
    {f13 : Addr} {od13 an13 : Option Addr} {sl13 : Array (Option Value)} {oc13 kV13 dc13 pm13 cd13 ct13 : Value}
    (a13 : PySem.W.nsIn K mainGlobals "part_from" = some (some (.ref f13))) (l13 : K.lookup f13 = some ⟨oc13, od13, .func (PySem.W.fnOf "part_from" "part_from" (defArgs s_part_from) (defBody s_part_from) (defScope s_part_from) .none kV13 dc13 pm13 an13 cd13 ct13), sl13⟩) (c13 : PySem.W.codeIn K cd13 "part_from" = true) (k13 : PySem.W.keepIn K (.ref f13) = true)
    {f14 : Addr} {od14 an14 : Option Addr} {sl14 : Array (Option Value)} {oc14 kV14 dc14 pm14 cd14 ct14 : Value}
    (a14 : PySem.W.nsIn K mainGlobals "wish_from" = some (some (.ref f14))) (l14 : K.lookup f14 = some ⟨oc14, od14, .func (PySem.W.fnOf "wish_from" "wish_from" (defArgs s_wish_from) (defBody s_wish_from) (defScope s_wish_from) .none kV14 dc14 pm14 an14 cd14 ct14), sl14⟩) (c14 : PySem.W.codeIn K cd14 "wish_from" = true) (k14 : PySem.W.keepIn K (.ref f14) = true)
    {f15 : Addr} {od15 an15 : Option Addr} {sl15 : Array (Option Value)} {oc15 kV15 dc15 pm15 cd15 ct15 : Value}
    (a15 : PySem.W.nsIn K mainGlobals "read_wish" = some (some (.ref f15))) (l15 : K.lookup f15 = some ⟨oc15, od15, .func (PySem.W.fnOf "read_wish" "read_wish" (defArgs s_read_wish) (defBody s_read_wish) (defScope s_read_wish) .none kV15 dc15 pm15 an15 cd15 ct15), sl15⟩) (c15 : PySem.W.codeIn K cd15 "read_wish" = true) (k15 : PySem.W.keepIn K (.ref f15) = true)
    {f16 : Addr} {od16 an16 : Option Addr} {sl16 : Array (Option Value)} {oc16 kV16 dc16 pm16 cd16 ct16 : Value}
    (a16 : PySem.W.nsIn K mainGlobals "_law_hand" = some (some (.ref f16))) (l16 : K.lookup f16 = some ⟨oc16, od16, .func (PySem.W.fnOf "_law_hand" "_law_hand" (defArgs s_l_hand) (defBody s_l_hand) (defScope s_l_hand) .none kV16 dc16 pm16 an16 cd16 ct16), sl16⟩) (c16 : PySem.W.codeIn K cd16 "_law_hand" = true) (k16 : PySem.W.keepIn K (.ref f16) = true)
    {f17 : Addr} {od17 an17 : Option Addr} {sl17 : Array (Option Value)} {oc17 kV17 dc17 pm17 cd17 ct17 : Value}
    (a17 : PySem.W.nsIn K mainGlobals "_law_next" = some (some (.ref f17))) (l17 : K.lookup f17 = some ⟨oc17, od17, .func (PySem.W.fnOf "_law_next" "_law_next" (defArgs s_l_next) (defBody s_l_next) (defScope s_l_next) .none kV17 dc17 pm17 an17 cd17 ct17), sl17⟩) (c17 : PySem.W.codeIn K cd17 "_law_next" = true) (k17 : PySem.W.keepIn K (.ref f17) = true)
    {f18 : Addr} {od18 an18 : Option Addr} {sl18 : Array (Option Value)} {oc18 kV18 dc18 pm18 cd18 ct18 : Value}
    (a18 : PySem.W.nsIn K mainGlobals "_law_take" = some (some (.ref f18))) (l18 : K.lookup f18 = some ⟨oc18, od18, .func (PySem.W.fnOf "_law_take" "_law_take" (defArgs s_l_take) (defBody s_l_take) (defScope s_l_take) .none kV18 dc18 pm18 an18 cd18 ct18), sl18⟩) (c18 : PySem.W.codeIn K cd18 "_law_take" = true) (k18 : PySem.W.keepIn K (.ref f18) = true)
    {f19 : Addr} {od19 an19 : Option Addr} {sl19 : Array (Option Value)} {oc19 kV19 dc19 pm19 cd19 ct19 : Value}
    (a19 : PySem.W.nsIn K mainGlobals "_law_draw" = some (some (.ref f19))) (l19 : K.lookup f19 = some ⟨oc19, od19, .func (PySem.W.fnOf "_law_draw" "_law_draw" (defArgs s_l_draw) (defBody s_l_draw) (defScope s_l_draw) .none kV19 dc19 pm19 an19 cd19 ct19), sl19⟩) (c19 : PySem.W.codeIn K cd19 "_law_draw" = true) (k19 : PySem.W.keepIn K (.ref f19) = true)
    {f20 : Addr} {od20 an20 : Option Addr} {sl20 : Array (Option Value)} {oc20 kV20 dc20 pm20 cd20 ct20 : Value}
    (a20 : PySem.W.nsIn K mainGlobals "_law_whole" = some (some (.ref f20))) (l20 : K.lookup f20 = some ⟨oc20, od20, .func (PySem.W.fnOf "_law_whole" "_law_whole" (defArgs s_l_whole) (defBody s_l_whole) (defScope s_l_whole) .none kV20 dc20 pm20 an20 cd20 ct20), sl20⟩) (c20 : PySem.W.codeIn K cd20 "_law_whole" = true) (k20 : PySem.W.keepIn K (.ref f20) = true)
    {f21 : Addr} {od21 an21 : Option Addr} {sl21 : Array (Option Value)} {oc21 kV21 dc21 pm21 cd21 ct21 : Value}
    (a21 : PySem.W.nsIn K mainGlobals "_law_number" = some (some (.ref f21))) (l21 : K.lookup f21 = some ⟨oc21, od21, .func (PySem.W.fnOf "_law_number" "_law_number" (defArgs s_l_number) (defBody s_l_number) (defScope s_l_number) .none kV21 dc21 pm21 an21 cd21 ct21), sl21⟩) (c21 : PySem.W.codeIn K cd21 "_law_number" = true) (k21 : PySem.W.keepIn K (.ref f21) = true)
    {f22 : Addr} {od22 an22 : Option Addr} {sl22 : Array (Option Value)} {oc22 kV22 dc22 pm22 cd22 ct22 : Value}
    (a22 : PySem.W.nsIn K mainGlobals "_law_name" = some (some (.ref f22))) (l22 : K.lookup f22 = some ⟨oc22, od22, .func (PySem.W.fnOf "_law_name" "_law_name" (defArgs s_l_name) (defBody s_l_name) (defScope s_l_name) .none kV22 dc22 pm22 an22 cd22 ct22), sl22⟩) (c22 : PySem.W.codeIn K cd22 "_law_name" = true) (k22 : PySem.W.keepIn K (.ref f22) = true)
    {f23 : Addr} {od23 an23 : Option Addr} {sl23 : Array (Option Value)} {oc23 kV23 dc23 pm23 cd23 ct23 : Value}
    (a23 : PySem.W.nsIn K mainGlobals "_law_wish" = some (some (.ref f23))) (l23 : K.lookup f23 = some ⟨oc23, od23, .func (PySem.W.fnOf "_law_wish" "_law_wish" (defArgs s_l_wish) (defBody s_l_wish) (defScope s_l_wish) .none kV23 dc23 pm23 an23 cd23 ct23), sl23⟩) (c23 : PySem.W.codeIn K cd23 "_law_wish" = true) (k23 : PySem.W.keepIn K (.ref f23) = true)
    {f24 : Addr} {od24 an24 : Option Addr} {sl24 : Array (Option Value)} {oc24 kV24 dc24 pm24 cd24 ct24 : Value}
    (a24 : PySem.W.nsIn K mainGlobals "_law_written" = some (some (.ref f24))) (l24 : K.lookup f24 = some ⟨oc24, od24, .func (PySem.W.fnOf "_law_written" "_law_written" (defArgs s_l_written) (defBody s_l_written) (defScope s_l_written) .none kV24 dc24 pm24 an24 cd24 ct24), sl24⟩) (c24 : PySem.W.codeIn K cd24 "_law_written" = true) (k24 : PySem.W.keepIn K (.ref f24) = true)
    {f25 : Addr} {od25 an25 : Option Addr} {sl25 : Array (Option Value)} {oc25 kV25 dc25 pm25 cd25 ct25 : Value}
    (a25 : PySem.W.nsIn K mainGlobals "_law_deep" = some (some (.ref f25))) (l25 : K.lookup f25 = some ⟨oc25, od25, .func (PySem.W.fnOf "_law_deep" "_law_deep" (defArgs s_l_deep) (defBody s_l_deep) (defScope s_l_deep) .none kV25 dc25 pm25 an25 cd25 ct25), sl25⟩) (c25 : PySem.W.codeIn K cd25 "_law_deep" = true) (k25 : PySem.W.keepIn K (.ref f25) = true)
    {f26 : Addr} {od26 an26 : Option Addr} {sl26 : Array (Option Value)} {oc26 kV26 dc26 pm26 cd26 ct26 : Value}
    (a26 : PySem.W.nsIn K mainGlobals "_law_alike" = some (some (.ref f26))) (l26 : K.lookup f26 = some ⟨oc26, od26, .func (PySem.W.fnOf "_law_alike" "_law_alike" (defArgs s_l_alike) (defBody s_l_alike) (defScope s_l_alike) .none kV26 dc26 pm26 an26 cd26 ct26), sl26⟩) (c26 : PySem.W.codeIn K cd26 "_law_alike" = true) (k26 : PySem.W.keepIn K (.ref f26) = true)
    {f27 : Addr} {od27 an27 : Option Addr} {sl27 : Array (Option Value)} {oc27 kV27 dc27 pm27 cd27 ct27 : Value}
    (a27 : PySem.W.nsIn K mainGlobals "_law_good" = some (some (.ref f27))) (l27 : K.lookup f27 = some ⟨oc27, od27, .func (PySem.W.fnOf "_law_good" "_law_good" (defArgs s_l_good) (defBody s_l_good) (defScope s_l_good) .none kV27 dc27 pm27 an27 cd27 ct27), sl27⟩) (c27 : PySem.W.codeIn K cd27 "_law_good" = true) (k27 : PySem.W.keepIn K (.ref f27) = true)
    {f28 : Addr} {od28 an28 : Option Addr} {sl28 : Array (Option Value)} {oc28 kV28 dc28 pm28 cd28 ct28 : Value}
    (a28 : PySem.W.nsIn K mainGlobals "_law_bad" = some (some (.ref f28))) (l28 : K.lookup f28 = some ⟨oc28, od28, .func (PySem.W.fnOf "_law_bad" "_law_bad" (defArgs s_l_bad) (defBody s_l_bad) (defScope s_l_bad) .none kV28 dc28 pm28 an28 cd28 ct28), sl28⟩) (c28 : PySem.W.codeIn K cd28 "_law_bad" = true) (k28 : PySem.W.keepIn K (.ref f28) = true)
    {f29 : Addr} {od29 an29 : Option Addr} {sl29 : Array (Option Value)} {oc29 kV29 dc29 pm29 cd29 ct29 : Value}
    (a29 : PySem.W.nsIn K mainGlobals "_law_unread" = some (some (.ref f29))) (l29 : K.lookup f29 = some ⟨oc29, od29, .func (PySem.W.fnOf "_law_unread" "_law_unread" (defArgs s_l_unread) (defBody s_l_unread) (defScope s_l_unread) .none kV29 dc29 pm29 an29 cd29 ct29), sl29⟩) (c29 : PySem.W.codeIn K cd29 "_law_unread" = true) (k29 : PySem.W.keepIn K (.ref f29) = true)
    {f30 : Addr} {od30 an30 : Option Addr} {sl30 : Array (Option Value)} {oc30 kV30 dc30 pm30 cd30 ct30 : Value}
    (a30 : PySem.W.nsIn K mainGlobals "_law_no_wish" = some (some (.ref f30))) (l30 : K.lookup f30 = some ⟨oc30, od30, .func (PySem.W.fnOf "_law_no_wish" "_law_no_wish" (defArgs s_l_no_wish) (defBody s_l_no_wish) (defScope s_l_no_wish) .none kV30 dc30 pm30 an30 cd30 ct30), sl30⟩) (c30 : PySem.W.codeIn K cd30 "_law_no_wish" = true) (k30 : PySem.W.keepIn K (.ref f30) = true)
    {f31 : Addr} {od31 an31 : Option Addr} {sl31 : Array (Option Value)} {oc31 kV31 dc31 pm31 cd31 ct31 : Value}
    (a31 : PySem.W.nsIn K mainGlobals "law" = some (some (.ref f31))) (l31 : K.lookup f31 = some ⟨oc31, od31, .func (PySem.W.fnOf "law" "law" (defArgs s_law) (defBody s_law) (defScope s_law) .none kV31 dc31 pm31 an31 cd31 ct31), sl31⟩) (c31 : PySem.W.codeIn K cd31 "law" = true) (k31 : PySem.W.keepIn K (.ref f31) = true)
    (z0 : PySem.W.nsIn K mainGlobals "ValueError" = some none)
    (z1 : PySem.W.nsIn K mainGlobals "abs" = some none)
    (z2 : PySem.W.nsIn K mainGlobals "all" = some none)
    (z3 : PySem.W.nsIn K mainGlobals "bool" = some none)
    (z4 : PySem.W.nsIn K mainGlobals "int" = some none)
    (z5 : PySem.W.nsIn K mainGlobals "isinstance" = some none)
    (z6 : PySem.W.nsIn K mainGlobals "len" = some none)
    (z7 : PySem.W.nsIn K mainGlobals "list" = some none)
    (z8 : PySem.W.nsIn K mainGlobals "max" = some none)
    (z9 : PySem.W.nsIn K mainGlobals "range" = some none)
    (z10 : PySem.W.nsIn K mainGlobals "str" = some none)
    (z11 : PySem.W.nsIn K mainGlobals "tuple" = some none)
    (z12 : PySem.W.nsIn K mainGlobals "zip" = some none)
    {tq0 : Tok} (q0 : PySem.W.nsIn K mainGlobals "MOST_LETTERS" = some (some (.int 8 tq0)))
    {tq1 : Tok} (q1 : PySem.W.nsIn K mainGlobals "LETTERS" = some (some (.str "abcdefghijklmnopqrstuvwxyz" tq1)))
    {tq2 : Tok} (q2 : PySem.W.nsIn K mainGlobals "DEEPEST" = some (some (.int 6 tq2)))
    {tq3 : Tok} (q3 : PySem.W.nsIn K mainGlobals "FIGURES" = some (some (.str "0123456789" tq3)))
    {tq4 : Tok} (q4 : PySem.W.nsIn K mainGlobals "MOST_FIGURES" = some (some (.int 60 tq4)))
    {t0 : Tok} {ad0 : Addr} {t1 : Tok} {ad1 : Addr} {t2 : Tok} {ad2 : Addr} {t3 : Tok} {ad3 : Addr} {t4 : Tok} {ad4 : Addr} {t5 : Tok} {ad5 : Addr} {o0 : Option Addr} {n0} {s0 : Array (Option Value)} {u0_0 : Tok} {o1 : Option Addr} {n1} {s1 : Array (Option Value)} {u1_0 : Tok} {u1_1 : Tok} {o2 : Option Addr} {n2} {s2 : Array (Option Value)} {u2_0 : Tok} {o3 : Option Addr} {n3} {s3 : Array (Option Value)} {u3_0 : Tok} {o4 : Option Addr} {n4} {s4 : Array (Option Value)} {u4_0 : Tok} {u4_1 : Tok} {o5 : Option Addr} {n5} {s5 : Array (Option Value)} {u5_0 : Tok} {u5_1 : Tok} {epS : _} (wS : (g0 == sysModules) = false) (yS : K.lookup g0 = some ⟨.type "dict", none, .dict #[⟨PyData.keyHash w.params (Str.ofString "in"), .str (Str.ofString "in") t0, .ref ad0⟩, ⟨PyData.keyHash w.params (Str.ofString "round"), .str (Str.ofString "round") t1, .ref ad1⟩, ⟨PyData.keyHash w.params (Str.ofString "least"), .str (Str.ofString "least") t2, .ref ad2⟩, ⟨PyData.keyHash w.params (Str.ofString "no"), .str (Str.ofString "no") t3, .ref ad3⟩, ⟨PyData.keyHash w.params (Str.ofString "both"), .str (Str.ofString "both") t4, .ref ad4⟩, ⟨PyData.keyHash w.params (Str.ofString "any"), .str (Str.ofString "any") t5, .ref ad5⟩] epS, #[]⟩) (y0 : K.lookup ad0 = some ⟨.type "tuple", o0, .seq #[.str (Str.ofString "name") u0_0] n0, s0⟩) (y1 : K.lookup ad1 = some ⟨.type "tuple", o1, .seq #[.str (Str.ofString "name") u1_0, .str (Str.ofString "number") u1_1] n1, s1⟩) (y2 : K.lookup ad2 = some ⟨.type "tuple", o2, .seq #[.str (Str.ofString "number") u2_0] n2, s2⟩) (y3 : K.lookup ad3 = some ⟨.type "tuple", o3, .seq #[.str (Str.ofString "wish") u3_0] n3, s3⟩) (y4 : K.lookup ad4 = some ⟨.type "tuple", o4, .seq #[.str (Str.ofString "wish") u4_0, .str (Str.ofString "wish") u4_1] n4, s4⟩) (y5 : K.lookup ad5 = some ⟨.type "tuple", o5, .seq #[.str (Str.ofString "wish") u5_0, .str (Str.ofString "wish") u5_1] n5, s5⟩)
    (w0 : exK K g3 = true)
    (w1 : exC K g3 = true)
    (w2 : exK K g2 = true)
    (w3 : exC K g2 = true)
    (w4 : PySem.W.exmOne K (.ref g3) (.ref g1) = some true)
    (w5 : PySem.W.exmOne K (.ref g2) (.ref g1) = some true)
    (w6 : PySem.W.kitOne K (.ref g3) (.ref g3) = some true)
    (w7 : PySem.W.kitOne K (.ref g3) (.type "ValueError") = some true)
    (w8 : PySem.W.kitOne K (.ref g3) (.ref g2) = some false)
    (w9 : PySem.W.kitOne K (.ref g2) (.ref g2) = some true)
    (w10 : PySem.W.kitOne K (.ref g2) (.type "ValueError") = some true)
    (w11 : PySem.W.kitOne K (.ref g2) (.ref g3) = some false)
    : ∃ fd : FuncData, (∀ (s : Shared) (v : Value), BindsTo s fd ⟨[v], []⟩ [("_law_script", v)]) ∧ ∀ base : Heap, K.In base → base.Ns mainGlobals mg → FnOk l.prog w K mg base CX0 23 fa fd ["_law_script"] (sp_law K) := by
  have e := hfa.symm.trans (PySem.W.mg_of X G a31)
  cases e
  have F0 := fun_mk (st := s_is_name) l0 c0 k0
  have b0 := F0.binds (ps := ["thing"]) fun _ _ _ _ _ _ us hl => match us, hl with | [_], _ => rfl
  have F1 := fun_mk (st := s_is_whole) l1 c1 k1
  have b1 := F1.binds (ps := ["thing"]) fun _ _ _ _ _ _ us hl => match us, hl with | [_], _ => rfl
  have F2 := fun_mk (st := s_shape_of) l2 c2 k2
  have b2 := F2.binds (ps := ["word"]) fun _ _ _ _ _ _ us hl => match us, hl with | [_], _ => rfl
  have F3 := fun_mk (st := s_is_part) l3 c3 k3
  have b3 := F3.binds (ps := ["kind", "thing", "depth"]) fun _ _ _ _ _ _ us hl => match us, hl with | [_, _, _], _ => rfl
  have F4 := fun_mk (st := s_is_wish_within) l4 c4 k4
  have b4 := F4.binds (ps := ["thing", "depth"]) fun _ _ _ _ _ _ us hl => match us, hl with | [_, _], _ => rfl
  have F5 := fun_mk (st := s_is_wish) l5 c5 k5
  have b5 := F5.binds (ps := ["thing"]) fun _ _ _ _ _ _ us hl => match us, hl with | [_], _ => rfl
  have F6 := fun_mk (st := s_check_wish) l6 c6 k6
  have b6 := F6.binds (ps := ["thing"]) fun _ _ _ _ _ _ us hl => match us, hl with | [_], _ => rfl
  have F7 := fun_mk (st := s_show_part) l7 c7 k7
  have b7 := F7.binds (ps := ["kind", "part"]) fun _ _ _ _ _ _ us hl => match us, hl with | [_, _], _ => rfl
  have F8 := fun_mk (st := s_words_of_wish) l8 c8 k8
  have b8 := F8.binds (ps := ["wish"]) fun _ _ _ _ _ _ us hl => match us, hl with | [_], _ => rfl
  have F9 := fun_mk (st := s_show_wish) l9 c9 k9
  have b9 := F9.binds (ps := ["wish"]) fun _ _ _ _ _ _ us hl => match us, hl with | [_], _ => rfl
  have F10 := fun_mk (st := s_check_text) l10 c10 k10
  have b10 := F10.binds (ps := ["text"]) fun _ _ _ _ _ _ us hl => match us, hl with | [_], _ => rfl
  have F11 := fun_mk (st := s_read_whole) l11 c11 k11
  have b11 := F11.binds (ps := ["text"]) fun _ _ _ _ _ _ us hl => match us, hl with | [_], _ => rfl
  have F12 := fun_mk (st := s_read_name) l12 c12 k12
  have b12 := F12.binds (ps := ["text"]) fun _ _ _ _ _ _ us hl => match us, hl with | [_], _ => rfl
  have F13 := fun_mk (st := s_part_from) l13 c13 k13
  have b13 := F13.binds (ps := ["kind", "words", "depth"]) fun _ _ _ _ _ _ us hl => match us, hl with | [_, _, _], _ => rfl
  have F14 := fun_mk (st := s_wish_from) l14 c14 k14
  have b14 := F14.binds (ps := ["words", "depth"]) fun _ _ _ _ _ _ us hl => match us, hl with | [_, _], _ => rfl
  have F15 := fun_mk (st := s_read_wish) l15 c15 k15
  have b15 := F15.binds (ps := ["text"]) fun _ _ _ _ _ _ us hl => match us, hl with | [_], _ => rfl
  have F16 := fun_mk (st := s_l_hand) l16 c16 k16
  have b16 := F16.binds (ps := ["_law_script"]) fun _ _ _ _ _ _ us hl => match us, hl with | [_], _ => rfl
  have F17 := fun_mk (st := s_l_next) l17 c17 k17
  have b17 := F17.binds (ps := ["_law_hand_here"]) fun _ _ _ _ _ _ us hl => match us, hl with | [_], _ => rfl
  have F18 := fun_mk (st := s_l_take) l18 c18 k18
  have b18 := F18.binds (ps := ["_law_hand_here"]) fun _ _ _ _ _ _ us hl => match us, hl with | [_], _ => rfl
  have F19 := fun_mk (st := s_l_draw) l19 c19 k19
  have b19 := F19.binds (ps := ["_law_hand_here", "_law_many"]) fun _ _ _ _ _ _ us hl => match us, hl with | [_, _], _ => rfl
  have F20 := fun_mk (st := s_l_whole) l20 c20 k20
  have b20 := F20.binds (ps := ["_law_thing"]) fun _ _ _ _ _ _ us hl => match us, hl with | [_], _ => rfl
  have F21 := fun_mk (st := s_l_number) l21 c21 k21
  have b21 := F21.binds (ps := ["_law_hand_here"]) fun _ _ _ _ _ _ us hl => match us, hl with | [_], _ => rfl
  have F22 := fun_mk (st := s_l_name) l22 c22 k22
  have b22 := F22.binds (ps := ["_law_hand_here"]) fun _ _ _ _ _ _ us hl => match us, hl with | [_], _ => rfl
  have F23 := fun_mk (st := s_l_wish) l23 c23 k23
  have b23 := F23.binds (ps := ["_law_hand_here", "_law_deep_here"]) fun _ _ _ _ _ _ us hl => match us, hl with | [_, _], _ => rfl
  have F24 := fun_mk (st := s_l_written) l24 c24 k24
  have b24 := F24.binds (ps := ["_law_wish_here"]) fun _ _ _ _ _ _ us hl => match us, hl with | [_], _ => rfl
  have F25 := fun_mk (st := s_l_deep) l25 c25 k25
  have b25 := F25.binds (ps := ["_law_wish_here"]) fun _ _ _ _ _ _ us hl => match us, hl with | [_], _ => rfl
  have F26 := fun_mk (st := s_l_alike) l26 c26 k26
  have b26 := F26.binds (ps := ["_law_found", "_law_due"]) fun _ _ _ _ _ _ us hl => match us, hl with | [_, _], _ => rfl
  have F27 := fun_mk (st := s_l_good) l27 c27 k27
  have b27 := F27.binds (ps := ["_law_wish_here"]) fun _ _ _ _ _ _ us hl => match us, hl with | [_], _ => rfl
  have F28 := fun_mk (st := s_l_bad) l28 c28 k28
  have b28 := F28.binds (ps := ["_law_thing"]) fun _ _ _ _ _ _ us hl => match us, hl with | [_], _ => rfl
  have F29 := fun_mk (st := s_l_unread) l29 c29 k29
  have b29 := F29.binds (ps := ["_law_text"]) fun _ _ _ _ _ _ us hl => match us, hl with | [_], _ => rfl
  have F30 := fun_mk (st := s_l_no_wish) l30 c30 k30
  have b30 := F30.binds (ps := ["_law_hand_here", "_law_wish_here"]) fun _ _ _ _ _ _ us hl => match us, hl with | [_, _], _ => rfl
  have F31 := fun_mk (st := s_law) l31 c31 k31
  have b31 := F31.binds (ps := ["_law_script"]) fun _ _ _ _ _ _ us hl => match us, hl with | [_], _ => rfl
  have T : Txt K mg { f_is_name := f0, d_is_name := _, f_is_whole := f1, d_is_whole := _, f_shape_of := f2, d_shape_of := _, f_is_part := f3, d_is_part := _, f_is_wish_within := f4, d_is_wish_within := _, f_is_wish := f5, d_is_wish := _, f_check_wish := f6, d_check_wish := _, f_show_part := f7, d_show_part := _, f_words_of_wish := f8, d_words_of_wish := _, f_show_wish := f9, d_show_wish := _, f_check_text := f10, d_check_text := _, f_read_whole := f11, d_read_whole := _, f_read_name := f12, d_read_name := _, f_part_from := f13, d_part_from := _, f_wish_from := f14, d_wish_from := _, f_read_wish := f15, d_read_wish := _, f_l_hand := f16, d_l_hand := _, f_l_next := f17, d_l_next := _, f_l_take := f18, d_l_take := _, f_l_draw := f19, d_l_draw := _, f_l_whole := f20, d_l_whole := _, f_l_number := f21, d_l_number := _, f_l_name := f22, d_l_name := _, f_l_wish := f23, d_l_wish := _, f_l_written := f24, d_l_written := _, f_l_deep := f25, d_l_deep := _, f_l_alike := f26, d_l_alike := _, f_l_good := f27, d_l_good := _, f_l_bad := f28, d_l_bad := _, f_l_unread := f29, d_l_unread := _, f_l_no_wish := f30, d_l_no_wish := _, f_law := fa, d_law := _, c_SHAPES := g0, c_PlyError := g1, c_BadWish := g2, c_NoText := g3 } w := { is_name := ⟨F0, b0, PySem.W.mg_of X G a0⟩, is_whole := ⟨F1, b1, PySem.W.mg_of X G a1⟩, shape_of := ⟨F2, b2, PySem.W.mg_of X G a2⟩, is_part := ⟨F3, b3, PySem.W.mg_of X G a3⟩, is_wish_within := ⟨F4, b4, PySem.W.mg_of X G a4⟩, is_wish := ⟨F5, b5, PySem.W.mg_of X G a5⟩, check_wish := ⟨F6, b6, PySem.W.mg_of X G a6⟩, show_part := ⟨F7, b7, PySem.W.mg_of X G a7⟩, words_of_wish := ⟨F8, b8, PySem.W.mg_of X G a8⟩, show_wish := ⟨F9, b9, PySem.W.mg_of X G a9⟩, check_text := ⟨F10, b10, PySem.W.mg_of X G a10⟩, read_whole := ⟨F11, b11, PySem.W.mg_of X G a11⟩, read_name := ⟨F12, b12, PySem.W.mg_of X G a12⟩, part_from := ⟨F13, b13, PySem.W.mg_of X G a13⟩, wish_from := ⟨F14, b14, PySem.W.mg_of X G a14⟩, read_wish := ⟨F15, b15, PySem.W.mg_of X G a15⟩, l_hand := ⟨F16, b16, PySem.W.mg_of X G a16⟩, l_next := ⟨F17, b17, PySem.W.mg_of X G a17⟩, l_take := ⟨F18, b18, PySem.W.mg_of X G a18⟩, l_draw := ⟨F19, b19, PySem.W.mg_of X G a19⟩, l_whole := ⟨F20, b20, PySem.W.mg_of X G a20⟩, l_number := ⟨F21, b21, PySem.W.mg_of X G a21⟩, l_name := ⟨F22, b22, PySem.W.mg_of X G a22⟩, l_wish := ⟨F23, b23, PySem.W.mg_of X G a23⟩, l_written := ⟨F24, b24, PySem.W.mg_of X G a24⟩, l_deep := ⟨F25, b25, PySem.W.mg_of X G a25⟩, l_alike := ⟨F26, b26, PySem.W.mg_of X G a26⟩, l_good := ⟨F27, b27, PySem.W.mg_of X G a27⟩, l_bad := ⟨F28, b28, PySem.W.mg_of X G a28⟩, l_unread := ⟨F29, b29, PySem.W.mg_of X G a29⟩, l_no_wish := ⟨F30, b30, PySem.W.mg_of X G a30⟩, law := ⟨F31, b31, PySem.W.mg_of X G a31⟩, b_ValueError := PySem.W.mg_none_of X G z0, b_abs := PySem.W.mg_none_of X G z1, b_all := PySem.W.mg_none_of X G z2, b_bool := PySem.W.mg_none_of X G z3, b_int := PySem.W.mg_none_of X G z4, b_isinstance := PySem.W.mg_none_of X G z5, b_len := PySem.W.mg_none_of X G z6, b_list := PySem.W.mg_none_of X G z7, b_max := PySem.W.mg_none_of X G z8, b_range := PySem.W.mg_none_of X G z9, b_str := PySem.W.mg_none_of X G z10, b_tuple := PySem.W.mg_none_of X G z11, b_zip := PySem.W.mg_none_of X G z12, k_MOST_LETTERS := ⟨tq0, PySem.W.mg_of X G q0⟩, k_LETTERS := ⟨tq1, PySem.W.mg_of X G q1⟩, k_DEEPEST := ⟨tq2, PySem.W.mg_of X G q2⟩, k_FIGURES := ⟨tq3, PySem.W.mg_of X G q3⟩, k_MOST_FIGURES := ⟨tq4, PySem.W.mg_of X G q4⟩, m_SHAPES := PySem.W.mg_of X G u0, m_PlyError := PySem.W.mg_of X G u1, m_BadWish := PySem.W.mg_of X G u2, m_NoText := PySem.W.mg_of X G u3, e_NoText := w0, x_NoText := w1, e_BadWish := w2, x_BadWish := w3, m1 := w4, m2 := w5, i1 := w6, i2 := w7, i3 := w8, j1 := w9, j2 := w10, j3 := w11, shapes := sh_mk wS yS y0 y1 y2 y3 y4 y5 }
  exact ⟨PySem.W.fnOf "law" "law" (defArgs s_law) (defBody s_law) (defScope s_law) .none kV31 dc31 pm31 an31 cd31 ct31, fun s v => .of_eq rfl, fun base _ _ => ok_law T⟩
theorem walk {l : PySem.W.OpenLaw} {q : Program} {loose : List Str} {XP : (Str → Option Value) → Heap → Prop} {YP : World → Heap → Prop} {d : DefRec} {K : Params → PySem.W.Frag} (hn : l.most = some 63) (hdf : d.params.defaults = [])
    (hY : ∀ (w : World) (h : Heap), YP w h → (K w.params).In h)
    (F : ∀ (w : World) (mg : Str → Option Value) (fa : Addr) (h : Heap), (K w.params).In h → h.Ns mainGlobals mg → mg d.name = some (.ref fa) →
      ∃ fd : FuncData, (∀ (s : Shared) (u : Value), BindsTo s fd ⟨[u], []⟩ [("_law_script", u)]) ∧ ∀ base : Heap, (K w.params).In base → base.Ns mainGlobals mg → FnOk l.prog w (K w.params) mg base CX0 23 fa fd ["_law_script"] (sp_law (K w.params))) :
    PySem.W.WalkO q loose XP YP l.row.toRowW d [] (fun f vs => PySem.call f vs) :=
  L2.walk_of (n := 63) (k := 23) (x := "_law_script") (CX := fun _ => CX0) (sp := fun w => sp_law (K w.params)) hn (by decide) hdf ⟨rfl, by decide, by decide⟩ hY F (fun _ _ a ns hl _ hS => ⟨a, ns, rfl, hS, hl, fun _ => rfl⟩) fun _ _ _ _ _ z => z
end My
def PySem.W.Fast.tw2380638418418884596 : Nat := 0
def PySem.W.Fast.tw1258283699299927954 : Nat := 0
def PySem.W.Fast.tw17272775209156027705 : Nat := 0
def PySem.W.Fast.tw13610329121946553238 : Nat := 0
def PySem.W.Fast.tw225671648395240246 : Nat := 0
def PySem.W.Fast.tw15418878701650389306 : Nat := 0
def PySem.W.Fast.tw1141536585161017487 : Nat := 0
def PySem.W.Fast.tw9634365747195144106 : Nat := 0
def PySem.W.Fast.tw5773595560067939957 : Nat := 0
def PySem.W.Fast.tw11799657589836075440 : Nat := 0
def PySem.W.Fast.tw15185922250323474313 : Nat := 0
open PySem PySem.W PyProof.Rows
set_option maxRecDepth 100000 in
set_option maxHeartbeats 0 in
theorem PySem.Challenge.cw_plymap_k93_wishes_holds : PySem.Challenge.rw_plymap_k93_wishes.Holds := by
  w_on; o_law; k_head; (case hw => w_witness2)
  k_fill
  refine My.walk (l := PySem.Challenge.rw_plymap_k93_wishes) rfl rfl (fun w h Y => PySem.W.kIn_of Y) ?F
  case F =>
    intro w mg fa h KX G hmg
    refine' My.all_mk KX G hmg ?u0 ?u1 ?u2 ?u3 ?a0 ?l0 ?c0 ?k0 ?a1 ?l1 ?c1 ?k1 ?a2 ?l2 ?c2 ?k2 ?a3 ?l3 ?c3 ?k3 ?a4 ?l4 ?c4 ?k4 ?a5 ?l5 ?c5 ?k5 ?a6 ?l6 ?c6 ?k6 ?a7 ?l7 ?c7 ?k7 ?a8 ?l8 ?c8 ?k8 ?a9 ?l9 ?c9 ?k9 ?a10 ?l10 ?c10 ?k10 ?a11 ?l11 ?c11 ?k11 ?a12 ?l12 ?c12 ?k12 ?a13 ?l13 ?c13 ?k13 ?a14 ?l14 ?c14 ?k14 ?a15 ?l15 ?c15 ?k15 ?a16 ?l16 ?c16 ?k16 ?a17 ?l17 ?c17 ?k17 ?a18 ?l18 ?c18 ?k18 ?a19 ?l19 ?c19 ?k19 ?a20 ?l20 ?c20 ?k20 ?a21 ?l21 ?c21 ?k21 ?a22 ?l22 ?c22 ?k22 ?a23 ?l23 ?c23 ?k23 ?a24 ?l24 ?c24 ?k24 ?a25 ?l25 ?c25 ?k25 ?a26 ?l26 ?c26 ?k26 ?a27 ?l27 ?c27 ?k27 ?a28 ?l28 ?c28 ?k28 ?a29 ?l29 ?c29 ?k29 ?a30 ?l30 ?c30 ?k30 ?a31 ?l31 ?c31 ?k31 ?z0 ?z1 ?z2 ?z3 ?z4 ?z5 ?z6 ?z7 ?z8 ?z9 ?z10 ?z11 ?z12 ?q0 ?q1 ?q2 ?q3 ?q4 ?wS ?yS ?y0 ?y1 ?y2 ?y3 ?y4 ?y5 ?w0 ?w1 ?w2 ?w3 ?w4 ?w5 ?w6 ?w7 ?w8 ?w9 ?w10 ?w11
    (case u0 => k_is)
    (case u1 => k_is)
    (case u2 => k_is)
    (case u3 => k_is)
    (case a0 => k_is)
    (case l0 => k_is)
    (case c0 => k_is)
    (case k0 => k_is)
    (case a1 => k_is)
    (case l1 => k_is)
    (case c1 => k_is)
    (case k1 => k_is)
    (case a2 => k_is)
    (case l2 => k_is)
    (case c2 => k_is)
    (case k2 => k_is)
    (case a3 => k_is)
    (case l3 => k_is)
    (case c3 => k_is)
    (case k3 => k_is)
    (case a4 => k_is)
    (case l4 => k_is)
    (case c4 => k_is)
    (case k4 => k_is)
    (case a5 => k_is)
    (case l5 => k_is)
    (case c5 => k_is)
    (case k5 => k_is)
    (case a6 => k_is)
    (case l6 => k_is)
    (case c6 => k_is)
    (case k6 => k_is)
    (case a7 => k_is)
    (case l7 => k_is)
    (case c7 => k_is)
    (case k7 => k_is)
    (case a8 => k_is)
    (case l8 => k_is)
    (case c8 => k_is)
    (case k8 => k_is)
    (case a9 => k_is)
    (case l9 => k_is)
    (case c9 => k_is)
    (case k9 => k_is)
    (case a10 => k_is)
    (case l10 => k_is)
    (case c10 => k_is)
    (case k10 => k_is)
    (case a11 => k_is)
    (case l11 => k_is)
    (case c11 => k_is)
    (case k11 => k_is)
    (case a12 => k_is)
    (case l12 => k_is)
    (case c12 => k_is)
    (case k12 => k_is)
    (case a13 => k_is)
    (case l13 => k_is)
    (case c13 => k_is)
    (case k13 => k_is)
    (case a14 => k_is)
    (case l14 => k_is)
    (case c14 => k_is)
    (case k14 => k_is)
    (case a15 => k_is)
    (case l15 => k_is)
    (case c15 => k_is)
    (case k15 => k_is)
    (case a16 => k_is)
    (case l16 => k_is)
    (case c16 => k_is)
    (case k16 => k_is)
    (case a17 => k_is)
    (case l17 => k_is)
    (case c17 => k_is)
    (case k17 => k_is)
    (case a18 => k_is)
    (case l18 => k_is)
    (case c18 => k_is)
    (case k18 => k_is)
    (case a19 => k_is)
    (case l19 => k_is)
    (case c19 => k_is)
    (case k19 => k_is)
    (case a20 => k_is)
    (case l20 => k_is)
    (case c20 => k_is)
    (case k20 => k_is)
    (case a21 => k_is)
    (case l21 => k_is)
    (case c21 => k_is)
    (case k21 => k_is)
    (case a22 => k_is)
    (case l22 => k_is)
    (case c22 => k_is)
    (case k22 => k_is)
    (case a23 => k_is)
    (case l23 => k_is)
    (case c23 => k_is)
    (case k23 => k_is)
    (case a24 => k_is)
    (case l24 => k_is)
    (case c24 => k_is)
    (case k24 => k_is)
    (case a25 => k_is)
    (case l25 => k_is)
    (case c25 => k_is)
    (case k25 => k_is)
    (case a26 => k_is)
    (case l26 => k_is)
    (case c26 => k_is)
    (case k26 => k_is)
    (case a27 => k_is)
    (case l27 => k_is)
    (case c27 => k_is)
    (case k27 => k_is)
    (case a28 => k_is)
    (case l28 => k_is)
    (case c28 => k_is)
    (case k28 => k_is)
    (case a29 => k_is)
    (case l29 => k_is)
    (case c29 => k_is)
    (case k29 => k_is)
    (case a30 => k_is)
    (case l30 => k_is)
    (case c30 => k_is)
    (case k30 => k_is)
    (case a31 => k_is)
    (case l31 => k_is)
    (case c31 => k_is)
    (case k31 => k_is)
    (case z0 => k_is)
    (case z1 => k_is)
    (case z2 => k_is)
    (case z3 => k_is)
    (case z4 => k_is)
    (case z5 => k_is)
    (case z6 => k_is)
    (case z7 => k_is)
    (case z8 => k_is)
    (case z9 => k_is)
    (case z10 => k_is)
    (case z11 => k_is)
    (case z12 => k_is)
    (case q0 => k_is)
    (case q1 => k_is)
    (case q2 => k_is)
    (case q3 => k_is)
    (case q4 => k_is)
    (case wS => kernel_rfl)
    (case yS => k_is)
    (case y0 => k_is)
    (case y1 => k_is)
    (case y2 => k_is)
    (case y3 => k_is)
    (case y4 => k_is)
    (case y5 => k_is)
    (case w0 => kernel_rfl)
    (case w1 => kernel_rfl)
    (case w2 => kernel_rfl)
    (case w3 => kernel_rfl)
    (case w4 => kernel_rfl)
    (case w5 => kernel_rfl)
    (case w6 => kernel_rfl)
    (case w7 => kernel_rfl)
    (case w8 => kernel_rfl)
    (case w9 => kernel_rfl)
    (case w10 => kernel_rfl)
    (case w11 => kernel_rfl)
