import PyProof.Rows.All
import Wide.All
import OpenK.AllK
import Wide.FinOn
import Lean
import PyProof.EqAt
import PyProof.EqKinds
import PyProof.TupleCall
import PyProof.ZipIter
import PyProof.TupleIter
import PyProof.AttrMiss
import PyProof.TupleKey
import PyProof.DictFindH
import KE.KDictOf
import PyProof.DictIter
import PyProof.DictWalks
import PyProof.ListRange
import KE.KDictList
import PyProof.CompUse
import KE.KTryMore
import PyProof.WalkInts
import KE.KIntText
import PyProof.StrLawsTight
import PyProof.Rows.StrIntSpec
import KE.KxMul
import KE.KEqDict
import PyProof.DictValues
import PySem.Challenge.RW_plymap_k71_what_is_a_wish
set_option Elab.async false
set_option linter.all false
set_option maxRecDepth 100000
/-! THE HAND LAYER, for ints, bools, texts, own classes, LISTS and tuples (index, slices, in, append, pop ..), calls, loops. Paste it whole ahead of your own text; what your proof does not reach may be deleted. -/
namespace L2
open PySem PySem.Spec PyProof.Rows

/-- a key: an int or a str -/
abbrev Key := Sum Int Str
def keyIs : Key → Value → Bool
  | .inl k, v => Value.isInt k v
  | .inr x, v => Value.isStrOf x v
def keyH (w : World) : Key → Int
  | .inl k => hashInt k
  | .inr x => hashStr w x
theorem keyIs_shape : ∀ {k : Key} {v : Value}, keyIs k v = true → (∃ i t, k = Sum.inl i ∧ v = Value.int i t) ∨ (∃ x t, k = Sum.inr x ∧ v = Value.str x t)
  | .inl i, v, h => by
    obtain ⟨t, e⟩ := Value.isInt_shape (k := i) (v := v) h
    exact .inl ⟨i, t, rfl, e⟩
  | .inr x, v, h => by
    obtain ⟨t, e⟩ := Value.isStrOf_shape (x := x) (v := v) h
    exact .inr ⟨x, t, rfl, e⟩
theorem keyIs_int (i : Int) (t : Tok) : keyIs (.inl i) (.int i t) = true := by simp [keyIs, Value.isInt]
theorem keyIs_str (x : Str) (t : Tok) : keyIs (.inr x) (.str x t) = true := by simp [keyIs, Value.isStrOf]
theorem key_ll (a b : Int) : decide ((Sum.inl a : Key) = Sum.inl b) = (a == b) := by
  by_cases e : a = b
  · subst e; simp
  · have h : ¬ (Sum.inl a : Key) = Sum.inl b := fun q => e (Sum.inl.inj q)
    rw [decide_eq_false h]
    exact (beq_eq_false_iff_ne.mpr e).symm
theorem key_rr (a b : Str) : decide ((Sum.inr a : Key) = Sum.inr b) = decide (a = b) := by
  by_cases e : a = b
  · subst e; simp
  · have h : ¬ (Sum.inr a : Key) = Sum.inr b := fun q => e (Sum.inr.inj q)
    rw [decide_eq_false h, decide_eq_false e]
theorem key_lr (a : Int) (b : Str) : decide ((Sum.inl a : Key) = Sum.inr b) = false := decide_eq_false (fun q => nomatch q)
theorem key_rl (a : Str) (b : Int) : decide ((Sum.inr a : Key) = Sum.inl b) = false := decide_eq_false (fun q => nomatch q)

def mixKind (prog : Program) (w : World) : PySem.KeyKind prog w Key where
  is := keyIs
  hash := keyH w
  inj := fun v a b ha hb => by
    rcases keyIs_shape ha with ⟨i, t, rfl, rfl⟩ | ⟨x, t, rfl, rfl⟩
    · rcases keyIs_shape hb with ⟨j, u, rfl, e⟩ | ⟨y, u, rfl, e⟩
      · injection e with e1 _; rw [e1]
      · exact nomatch e
    · rcases keyIs_shape hb with ⟨j, u, rfl, e⟩ | ⟨y, u, rfl, e⟩
      · exact nomatch e
      · injection e with e1 _; rw [e1]
  byValue := fun k v h => by
    rcases keyIs_shape h with ⟨i, t, rfl, rfl⟩ | ⟨x, t, rfl, rfl⟩ <;> rfl
  pyHash := fun hv h => by
    rcases keyIs_shape hv with ⟨i, t, rfl, rfl⟩ | ⟨x, t, rfl, rfl⟩
    · exact wpAny_pyHash_int h
    · exact wpAny_pyHash_str h
  eqBool := fun hu hv h => by
    rcases keyIs_shape hu with ⟨i, t, rfl, rfl⟩ | ⟨x, t, rfl, rfl⟩
    · rcases keyIs_shape hv with ⟨j, u, rfl, rfl⟩ | ⟨y, u, rfl, rfl⟩
      · rw [key_ll] at h; exact wpAny_eqBool_int h
      · rw [key_lr] at h; exact SeqAt.EqAt.int_str i t y u _ _ _ _ h
    · rcases keyIs_shape hv with ⟨j, u, rfl, rfl⟩ | ⟨y, u, rfl, rfl⟩
      · rw [key_rl] at h; exact SeqAt.EqAt.str_int x t j u _ _ _ _ h
      · rw [key_rr] at h; exact wpAny_eqBool_str h
  «strs» := fun k x t v h => by
    rcases keyIs_shape h with ⟨i, u, rfl, e⟩ | ⟨y, u, rfl, e⟩
    · exact nomatch e
    · injection e with e1 _
      subst e1
      cases v <;> rfl

theorem mixKind_int (prog : Program) (w : World) (i : Int) (t : Tok) : (mixKind prog w).is (.inl i) (.int i t) = true := keyIs_int i t
theorem mixKind_str (prog : Program) (w : World) (x : Str) (t : Tok) : (mixKind prog w).is (.inr x) (.str x t) = true := keyIs_str x t
end L2

namespace L2
open PySem PySem.Spec PyProof.Rows

/-- a value, without the heap -/
inductive V where
  | non | bl (b : Bool) | int (i : Int) | str (x : Str) | byt (b : Array UInt8) | flt (b : UInt64) | ref (a : Addr) | ty (n : String)
  deriving DecidableEq

def RelV : V → Value → Prop
  | .non, u => u = Value.none
  | .bl b, u => u = Value.bool b
  | .int i, u => ∃ t, u = Value.int i t
  | .str x, u => ∃ t, u = Value.str x t
  | .byt b, u => ∃ t, u = Value.bytes b t
  | .flt b, u => ∃ t, u = Value.float b t
  | .ref a, u => u = Value.ref a
  | .ty n, u => u = Value.type n

abbrev Vals : List V → List Value → Prop := Paired RelV
theorem Vals.length {xs : List V} {us : List Value} (r : Vals xs us) : xs.length = us.length := Paired.length r
theorem Vals.get : ∀ {xs : List V} {us : List Value} {i : Nat} {x : V}, Vals xs us → xs[i]? = some x → ∃ u, us[i]? = some u ∧ RelV x u
  | _, _, _, _, .nil, e => by simp at e
  | _, _, 0, _, .cons r _, e => by simp at e; subst e; exact ⟨_, rfl, r⟩
  | _, _, i + 1, x, .cons _ t, e => by
    obtain ⟨u, h1, h2⟩ := Vals.get (i := i) (x := x) t (by simpa using e)
    exact ⟨u, by simpa using h1, h2⟩
theorem Vals.set {x : V} {u : Value} (r : RelV x u) : ∀ {xs : List V} {us : List Value} (i : Nat), Vals xs us → Vals (xs.set i x) (us.set i u)
  | _, _, _, .nil => .nil
  | _, _, 0, .cons _ t => .cons r t
  | _, _, i + 1, .cons q t => .cons q (Vals.set r i t)
theorem Vals.append : ∀ {xs ys : List V} {us ws : List Value}, Vals xs us → Vals ys ws → Vals (xs ++ ys) (us ++ ws)
  | _, _, _, _, .nil, s => s
  | _, _, _, _, .cons r t, s => .cons r (Vals.append t s)
theorem Vals.take : ∀ {xs : List V} {us : List Value} (n : Nat), Vals xs us → Vals (xs.take n) (us.take n)
  | _, _, 0, _ => .nil
  | _, _, _ + 1, .nil => .nil
  | _, _, n + 1, .cons r t => .cons r (Vals.take n t)
theorem Vals.drop : ∀ {xs : List V} {us : List Value} (n : Nat), Vals xs us → Vals (xs.drop n) (us.drop n)
  | _, _, 0, r => r
  | _, _, _ + 1, .nil => .nil
  | _, _, n + 1, .cons _ t => Vals.drop n t

def RelO : Option V → Option Value → Prop
  | some v, some u => RelV v u
  | none, none => True
  | _, _ => False
def KV {κ : Type} : List (κ × V) → List (κ × Value) → Prop := Paired fun (p : κ × V) (q : κ × Value) => p.1 = q.1 ∧ RelV p.2 q.2

/-- a key of a dict (00_mix): an int or a text -/
def kV : Key → V
  | .inl i => .int i
  | .inr x => .str x

/-- what stands at a tracked address -/
inductive HO where
  /-- a list -/
  | lst (xs : List V)
  /-- a tuple (never changes) -/
  | tup (xs : List V)
  /-- a dict whose keys are ints and texts; one whose keys are tuples of ints and texts (the empty one is both) -/
  | dK (kvs : List (Key × V)) | dT (kvs : List (List Key × V))
  /-- a set of ints: its members, its size -/
  | set (S : Int → Bool) (n : Nat)
  /-- an instance of the class at C, its dict at dx, its attributes -/
  | ins (C dx : Addr) (fs : List (Str × V))
  /-- the dict of the instance at x -/
  | own (x : Addr)
  /-- the dict of an exception -/
  | xd (fs : List (Str × V))
  /-- a bound method, f of x -/
  | met (f x : Addr)
  /-- a range object lo, lo + 1, .. below hi -/
  | rng (lo hi : Int)
  /-- a thing that is known to the object (the script; a dict while a loop walks it): read, never written while it is so -/
  | frz (o : Obj) (u : HO)
  /-- a code object's table -/
  | tbl (ps : Array Value)
  /-- any other thing, by what is true of its one object (a def of one's own: SetO a S n := HO.ext fun h => ..) -/
  | ext (φ : Heap → Prop)

abbrev Hp := Addr → Option HO
def upd (H : Hp) (a : Addr) (o : HO) : Hp := fun b => if b = a then some o else H b
theorem upd_same {H : Hp} {a : Addr} {o : HO} : upd H a o a = some o := by unfold upd; rw [if_pos rfl]
theorem upd_ne {H : Hp} {a b : Addr} {o : HO} (h : b ≠ a) : upd H a o b = H b := by unfold upd; rw [if_neg h]
theorem upd_upd {H : Hp} {a : Addr} {o u : HO} : upd (upd H a o) a u = upd H a u := by
  funext b; unfold upd; split <;> rfl
/-- two objects of different content stand apart -/
theorem ne_of {H : Hp} {a b : Addr} {o u : HO} (h : H a = some o) (h' : H b = some u) (d : o ≠ u) : a ≠ b := by
  intro e; subst e; rw [h] at h'; exact d (Option.some.inj h')
theorem ne_of_none {H : Hp} {a b : Addr} {o : HO} (h : H a = some o) (h' : H b = none) : a ≠ b := by
  intro e; subst e; rw [h] at h'; cases h'

section
variable (P : Program) (w : World)
def ObjOk (H : Hp) (h : Heap) (a : Addr) : HO → Prop
  | .lst xs => xs.length ≤ sizeLine ∧ ∃ (its : List Value) (n : Nat), Vals xs its ∧ h.get? a = some { cls := .type "list", data := .seq its.toArray n }
  | .tup xs => xs.length ≤ sizeLine ∧ ∃ its : List Value, Vals xs its ∧ IsTup h a its.toArray
  | .dK kvs => kvs.length ≤ sizeLine ∧ (a == sysModules) = false ∧ ∃ vs, KV kvs vs ∧ h.DictOf (mixKind P w) a vs
  | .dT kvs => kvs.length ≤ sizeLine ∧ (a == sysModules) = false ∧ ∃ xs : List (List Key × Addr × Value),
      Paired (fun (p : List Key × V) (q : List Key × Addr × Value) => p.1 = q.1 ∧ H q.2.1 = some (.tup (p.1.map kV)) ∧ RelV p.2 q.2.2) kvs xs ∧
      ∃ o es ep, h.get? a = some o ∧ o.ExactDict ∧ o.data = .dict es ep ∧ es.toList = xs.map (entryOfKey (tupleKind (mixKind P w))) ∧ (xs.map (·.1)).Nodup
  | .set S n => h.SetOf (intKind P w) a S n
  | .ins C dx fs => H dx = some (.own a) ∧ fs.length ≤ 1000 ∧ dx ≠ a ∧ h.get? a = some (PySem.W.instObj C dx) ∧
      ∃ mA, h.Ns1 dx mA ∧ (∀ f, RelO (fs.lookup f) (mA f)) ∧ PySem.Within mA (fs.map (·.1))
  | .own _ => ∃ o, h.get? a = some o
  | .xd fs => ∃ mA, h.Ns1 a mA ∧ ∀ f, RelO (fs.lookup f) (mA f)
  | .rng lo hi => ∃ t u v, h.get? a = some { cls := .type "range", data := .fields #[.int lo t, .int hi u, .int 1 v] }
  | .frz o u => h.get? a = some o ∧ ObjOk H h a u
  | .tbl ps => h.get? a = some { cls := .none, data := .fields ps }
  | .met f x => h.get? a = some (PySem.W.methodObj (.ref f) (.ref x))
  | .ext φ => φ h ∧ (∃ o, h.get? a = some o) ∧ ∀ h1 h2 : Heap, φ h1 → (∀ o, h1.get? a = some o → h2.get? a = some o) → φ h2
/-- the abstract heap is held -/
def HOk (H : Hp) (h : Heap) : Prop := ∀ a o, H a = some o → ObjOk P w H h a o
end

section
variable {P : Program} {w : World} {H H' : Hp} {h h' : Heap} {a : Addr} {o : HO}
theorem ObjOk.lt (x : ObjOk P w H h a o) : a < h.objs.size := by
  cases o with
  | lst xs => obtain ⟨_, _, _, _, e⟩ := x; exact Heap.lt_size e
  | tup xs => obtain ⟨_, _, _, p⟩ := x; exact p.lt
  | dK kvs => obtain ⟨_, _, _, _, o, _, _, e, _⟩ := x; exact Heap.lt_size e
  | dT kvs => obtain ⟨_, _, _, _, o, _, _, e, _⟩ := x; exact Heap.lt_size e
  | set S n => obtain ⟨o, _, _, _, e, _⟩ := x; exact Heap.lt_size e
  | ins C dx fs => obtain ⟨_, _, _, e, _⟩ := x; exact Heap.lt_size e
  | own y => obtain ⟨_, e⟩ := x; exact Heap.lt_size e
  | xd fs => obtain ⟨_, ⟨_, _, _, e, _⟩, _⟩ := x; exact Heap.lt_size e
  | rng lo hi => obtain ⟨_, _, _, e⟩ := x; exact Heap.lt_size e
  | frz ob u => obtain ⟨e, _⟩ := x; exact Heap.lt_size e
  | tbl ps => exact Heap.lt_size (show h.get? a = some _ from x)
  | met f y => exact Heap.lt_size (show h.get? a = some _ from x)
  | ext φ => obtain ⟨_, ⟨_, e⟩, _⟩ := x; exact Heap.lt_size e
theorem Paired.mapP {α β : Type} {F G : α → β → Prop} : ∀ {l₁ : List α} {l₂ : List β}, Paired F l₁ l₂ → (∀ a b, F a b → G a b) → Paired G l₁ l₂
  | _, _, .nil, _ => .nil
  | _, _, .cons r t, f => .cons (f _ _ r) (Paired.mapP t f)
/-- what an object's description leans on: its own object, its own dict, the tuples -/
theorem ObjOk.stay (x : ObjOk P w H h a o) (k : ∀ b u, (b = a ∨ H b = some (.own a)) → h.get? b = some u → h'.get? b = some u)
    (ho : ∀ b, H b = some (.own a) → H' b = some (.own a)) (ht : ∀ b xs, H b = some (.tup xs) → H' b = some (.tup xs)) : ObjOk P w H' h' a o := by
  induction o with
  | lst xs => obtain ⟨z, its, n, r, e⟩ := x; exact ⟨z, its, n, r, k _ _ (.inl rfl) e⟩
  | tup xs => obtain ⟨z, its, r, ob, e, c⟩ := x; exact ⟨z, its, r, ob, k _ _ (.inl rfl) e, c⟩
  | dK kvs => obtain ⟨z, y, vs, r, ob, es, ep, e, c⟩ := x; exact ⟨z, y, vs, r, ob, es, ep, k _ _ (.inl rfl) e, c⟩
  | dT kvs =>
    obtain ⟨z, y, xs, r, ob, es, ep, e, c⟩ := x
    exact ⟨z, y, xs, Paired.mapP r fun p q z => ⟨z.1, ht _ _ z.2.1, z.2.2⟩, ob, es, ep, k _ _ (.inl rfl) e, c⟩
  | set S n => obtain ⟨ob, es, ep, t, e, c⟩ := x; exact ⟨ob, es, ep, t, k _ _ (.inl rfl) e, c⟩
  | ins C dx fs =>
    obtain ⟨d, z, ne, e, mA, ⟨od, es, ep, e2, c⟩, r⟩ := x
    exact ⟨ho _ d, z, ne, k _ _ (.inl rfl) e, mA, ⟨od, es, ep, k _ _ (.inr d) e2, c⟩, r⟩
  | own y => obtain ⟨ob, e⟩ := x; exact ⟨ob, k _ _ (.inl rfl) e⟩
  | xd fs => obtain ⟨mA, ⟨od, es, ep, e, c⟩, r⟩ := x; exact ⟨mA, ⟨od, es, ep, k _ _ (.inl rfl) e, c⟩, r⟩
  | rng lo hi => obtain ⟨t, u, v, e⟩ := x; exact ⟨t, u, v, k _ _ (.inl rfl) e⟩
  | frz ob u ih => obtain ⟨e, q⟩ := x; exact ⟨k _ _ (.inl rfl) e, ih q⟩
  | tbl ps =>
    have e : h.get? a = some { cls := .none, data := .fields ps } := x
    show h'.get? a = some { cls := .none, data := .fields ps }
    exact k a _ (.inl rfl) e
  | met f y =>
    have e : h.get? a = some (PySem.W.methodObj (.ref f) (.ref y)) := x
    show h'.get? a = some (PySem.W.methodObj (.ref f) (.ref y))
    exact k a _ (.inl rfl) e
  | ext φ => obtain ⟨p, ⟨o, e⟩, st⟩ := x; exact ⟨st _ _ p fun o q => k _ _ (.inl rfl) q, ⟨o, k _ _ (.inl rfl) e⟩, st⟩
theorem HOk.lt (x : HOk P w H h) (e : H a = some o) : a < h.objs.size := (x a o e).lt
theorem HOk.fresh (x : HOk P w H h) (e : h.objs.size ≤ a) : H a = none := by
  cases q : H a with
  | none => rfl
  | some u => exact absurd (Nat.lt_of_lt_of_le (x.lt q) e) (Nat.lt_irrefl _)
/-- every object of the heap is kept -/
theorem HOk.kept (x : HOk P w H h) (k : ∀ b u, h.get? b = some u → h'.get? b = some u) : HOk P w H h' := fun a o e =>
  (x a o e).stay (fun b u _ q => k b u q) (fun _ q => q) fun _ _ q => q
/-- a new object is laid and tracked -/
theorem HOk.laid (x : HOk P w H h) (k : ∀ b u, h.get? b = some u → h'.get? b = some u) (hp : h.objs.size ≤ a) (new : ObjOk P w (upd H a o) h' a o) : HOk P w (upd H a o) h' := fun b u e => by
  have hn := x.fresh hp
  by_cases hb : b = a
  · subst hb; rw [upd_same] at e; cases e; exact new
  · rw [upd_ne hb] at e
    exact (x b u e).stay (fun c v _ q => k c v q) (fun c q => by rw [upd_ne (ne_of_none q hn)]; exact q) fun c xs q => by rw [upd_ne (ne_of_none q hn)]; exact q
end

/-- what may be read as u: it is u, or a known u -/
def Rd (H : Hp) (a : Addr) (u : HO) : Prop := H a = some u ∨ ∃ o, H a = some (.frz o u)
theorem Rd.ok {P : Program} {w : World} {H : Hp} {h : Heap} {a : Addr} {u : HO} (r : Rd H a u) (x : HOk P w H h) : ObjOk P w H h a u := by
  rcases r with r | ⟨o, r⟩
  · exact x a u r
  · obtain ⟨_, q⟩ := x a _ r
    exact q
/-- what may be written -/
def Mut : Option HO → Prop
  | some (.lst _) => True
  | some (.dK _) => True
  | some (.dT _) => True
  | some (.set _ _) => True
  | some (.ins _ _ _) => True
  | some (.ext _) => True
  | _ => False
section
variable {P : Program} {w : World} {H : Hp} {h h' : Heap} {x e : Addr} {o' : HO}
/-- the object at e is changed: x itself, or the dict of the instance x -/
theorem HOk.write (ok : HOk P w H h) (mu : Mut (H x)) (he : e = x ∨ H e = some (.own x)) (k : ∀ b u, b ≠ e → h.get? b = some u → h'.get? b = some u) (heo : ∃ u, h'.get? e = some u)
    (new : ObjOk P w (upd H x o') h' x o') : HOk P w (upd H x o') h' := fun b u q => by
  have nown : ∀ c y, H c = some (.own y) → c ≠ x := fun c y r z => by subst z; rw [r] at mu; exact mu
  have ntup : ∀ c xs, H c = some (.tup xs) → c ≠ x := fun c xs r z => by subst z; rw [r] at mu; exact mu
  by_cases hb : b = x
  · subst hb; rw [upd_same] at q; cases q; exact new
  · rw [upd_ne hb] at q
    by_cases hbe : b = e
    · have q' : H b = some (.own x) := by
        rcases he with z | z
        · exact absurd (hbe.trans z) hb
        · rw [hbe]; exact z
      rw [q] at q'; cases q'
      obtain ⟨v, hv⟩ := heo
      exact ⟨v, by rw [hbe]; exact hv⟩
    · refine (ok b u q).stay (fun c v hc r => k c v ?_ r) (fun c r => by rw [upd_ne (nown c b r)]; exact r) fun c xs r => by rw [upd_ne (ntup c xs r)]; exact r
      rcases hc with rfl | hc
      · exact hbe
      · rintro rfl
        rcases he with z | z
        · exact nown c b hc z
        · rw [hc] at z; cases z; exact hb rfl
end

/-! ### kept unless tracked; of the frames at fs (the callers') the slots may change (an exception that passes writes there); of the records at ex (iterators) nothing is said -/
structure Un (fs ex : List Addr) (H H' : Hp) (h h' : Heap) : Prop where
  keep : ∀ b o, h.get? b = some o → H b = none → b ∉ fs → b ∉ ex → h'.get? b = some o
  slot : ∀ b o, h.get? b = some o → H b = none → b ∈ fs → b ∉ ex → ∃ sl, h'.get? b = some { o with slots := sl }
  free : ∀ b o, h.get? b = some o → H b = none → b ∉ ex → H' b = none
  there : ∀ b o, h.get? b = some o → b ∉ ex → ∃ o', h'.get? b = some o'
  tups : ∀ b xs, H b = some (.tup xs) → H' b = some (.tup xs)
  frzs : ∀ b o u, H b = some (.frz o u) → H' b = some (.frz o u)
  tbls : ∀ b ps, H b = some (.tbl ps) → ∃ more, H' b = some (.tbl (ps ++ more))
section
variable {fs fs' ex ex' : List Addr} {H H1 H2 : Hp} {h h1 h2 h' : Heap} {a x e : Addr} {o : HO}
theorem Un.any (u : Un fs ex H H1 h h1) {b : Addr} {ob : Obj} (q : h.get? b = some ob) (n : H b = none) (hx : b ∉ ex) : ∃ sl, h1.get? b = some { ob with slots := sl } := by
  by_cases hb : b ∈ fs
  · exact u.slot b ob q n hb hx
  · exact ⟨ob.slots, u.keep b ob q n hb hx⟩
theorem Un.kept (k : ∀ b u, h.get? b = some u → h'.get? b = some u) : Un fs ex H H h h' :=
  ⟨fun b ob q _ _ _ => k b ob q, fun b ob q _ _ _ => ⟨ob.slots, k b ob q⟩, fun _ _ _ n _ => n, fun b ob q _ => ⟨ob, k b ob q⟩, fun _ _ q => q, fun _ _ _ q => q, fun _ ps q => ⟨#[], by rw [q]; simp⟩⟩
theorem Un.refl : Un fs ex H H h h := Un.kept fun _ _ q => q
theorem Un.laid (k : ∀ b u, h.get? b = some u → h'.get? b = some u) (hp : h.objs.size ≤ a) (hn : H a = none) : Un fs ex H (upd H a o) h h' where
  keep := fun b u q _ _ _ => k b u q
  slot := fun b u q _ _ _ => ⟨u.slots, k b u q⟩
  free := fun b u q n _ => by rw [upd_ne (Nat.ne_of_lt (Nat.lt_of_lt_of_le (Heap.lt_size q) hp))]; exact n
  there := fun b u q _ => ⟨u, k b u q⟩
  tups := fun b xs q => by rw [upd_ne (ne_of_none q hn)]; exact q
  frzs := fun b u xs q => by rw [upd_ne (ne_of_none q hn)]; exact q
  tbls := fun b ps q => ⟨#[], by rw [upd_ne (ne_of_none q hn), q]; simp⟩
theorem Un.write (mu : Mut (H x)) (he : e = x ∨ H e = some (.own x)) (k : ∀ b u, b ≠ e → h.get? b = some u → h'.get? b = some u) (heo : ∃ u, h'.get? e = some u) : Un fs ex H (upd H x o) h h' := by
  have hx : ∀ b, H b = none → b ≠ x := fun b n z => by subst z; rw [n] at mu; exact mu
  have hb : ∀ b, H b = none → b ≠ e := fun b n z => by
    subst z
    rcases he with r | r
    · exact hx b n r
    · rw [n] at r; cases r
  have hm : ∀ b u, H b = some u → ¬ Mut (some u) → b ≠ x := fun b u q nm z => by subst z; rw [q] at mu; exact nm mu
  refine ⟨fun b u q n _ _ => k b u (hb b n) q, fun b u q n _ _ => ⟨u.slots, k b u (hb b n) q⟩, fun b u q n _ => by rw [upd_ne (hx b n)]; exact n, fun b u q _ => ?_,
    fun b xs q => by rw [upd_ne (hm b _ q fun z => z)]; exact q, fun b u xs q => by rw [upd_ne (hm b _ q fun z => z)]; exact q, fun b ps q => ⟨#[], by rw [upd_ne (hm b _ q fun z => z), q]; simp⟩⟩
  by_cases hbe : b = e
  · subst hbe; exact heo
  · exact ⟨u, k b u hbe q⟩
end

/-! ### the heap without what is tracked -/
def trk (h : Heap) (H : Hp) : List Addr := (List.range h.objs.size).filter fun a => (H a).isSome
def hidT (h : Heap) (H : Hp) : Heap := PySem.W.hideAll h (trk h H)
theorem hidT_size (h : Heap) (H : Hp) : (hidT h H).objs.size = h.objs.size := PySem.W.hideAll_size _ _
theorem hidT_get {h : Heap} {H : Hp} {b : Addr} {o : Obj} (e : h.get? b = some o) (n : H b = none) : (hidT h H).get? b = some o :=
  PySem.W.hideAll_get _ e fun hm => by
    have q : (H b).isSome = true := (List.mem_filter.mp hm).2
    rw [n] at q; simp at q
theorem of_hidT {h : Heap} {H : Hp} {b : Addr} {o : Obj} (e : (hidT h H).get? b = some o) : h.get? b = some o ∧ H b = none := by
  have e' : h.get? b = some o := PySem.W.of_hideAll (trk h H) e
  refine ⟨e', ?_⟩
  cases q : H b with
  | none => rfl
  | some x =>
    have hm : b ∈ trk h H := List.mem_filter.mpr ⟨List.mem_range.mpr (Heap.lt_size e'), by simp [q]⟩
    have z : (hidT h H).get? b = none := PySem.W.hideAll_none (trk h H) hm
    rw [z] at e; cases e

/-! ### OpenK's ledger, filled with every new object but one -/
end L2

namespace L2
open PySem PySem.Spec PyProof.Rows

/-- the module's facts, over the base: the heap at the law's entry without what is tracked there -/
structure Mod (K : PySem.W.Frag) (mg : Str → Option Value) (base : Heap) : Prop where
  kin : K.In base
  glob : base.Ns mainGlobals mg
  blt : ∃ mb, base.Ns builtinsNs mb ∧ ∀ x : Str, x ≠ "__name__" → mb x = bootBuiltins x
  nolimit : base.NoLimit

/-- the context: a def's body (or a comprehension's block) running. base: fixed through the whole law; s₀, H₀: the entry; outer: the frames whose slots others may change (a def's callers); stack: all frames that run;
   ex: iterators that were made ahead of the entry and are walked here (a comprehension's); fn: the names whose cells were made at the entry (a def: all; a comprehension's block: its own); calm: not within an except suite; pn: pins that every state bears; xe: what is wanted of an exception that leaves the code -/
structure Cx where
  prog : Program
  w : World
  K : PySem.W.Frag
  mg : Str → Option Value
  base : Heap
  A : Around
  N : List Str
  s₀ : Shared
  H₀ : Hp
  env : Env
  outer : List Env
  stack : List Env
  ex : List Addr
  fn : Str → Bool
  calm : Bool
  pn : List (Addr × Obj)
  xe : Value → Shared → Prop
/-- the callers' frames -/
def frs (l : List Env) : List Addr := l.filterMap (·.frame)
abbrev Cx.fs (X : Cx) : List Addr := frs X.outer

def Vis (sc : Scope) (x : Str) : Prop := sc.names.lookup x = some .local ∨ sc.names.lookup x = some .cell ∨ sc.names.lookup x = some .free
def Loc (sc : Scope) (x : Str) : Prop := sc.names.lookup x = some .local ∨ sc.names.lookup x = some .cell
def Look (env : Env) (h : Heap) (m : Str → Option Value) (x : Str) (u : Value) : Prop :=
  (env.kindOf x = some .local ∧ m x = some u) ∨ ((env.kindOf x = some .cell ∨ env.kindOf x = some .free) ∧ ∃ c, env.cells.lookup x = some c ∧ h.IsCell c (some u))

structure Cx.Ok (X : Cx) : Prop where
  mod : Mod X.K X.mg X.base
  kind : X.env.scope.kind = .function
  glob : X.env.globals = mainGlobals
  blt : X.env.builtins = builtinsNs
  above : X.s₀.heap.objs.size ≤ X.env.locals
  inj : ∀ x y c, X.env.cells.lookup x = some c → X.env.cells.lookup y = some c → x = y
  has : ∀ x, (X.env.kindOf x = some .cell ∨ X.env.kindOf x = some .free) → ∃ c, X.env.cells.lookup x = some c
  cab : ∀ x c, X.fn x = true → X.env.cells.lookup x = some c → X.s₀.heap.objs.size ≤ c
  hd : X.calm = true → X.A.handled = none
  frames : X.A.frames = some X.stack
  stk : X.stack = X.outer ∨ (X.stack = X.env :: X.outer ∧ X.env.frame = some X.env.locals)
  exf : ∀ b ∈ X.ex, b ≠ X.env.locals ∧ ∀ x c, X.env.cells.lookup x = some c → c ≠ b
  bs : ∀ b o, X.base.get? b = some o → X.s₀.heap.get? b = some o ∧ X.H₀ b = none
  bsz : X.base.objs.size ≤ X.s₀.heap.objs.size
  noex : ∀ b o, X.base.get? b = some o → b ∉ X.ex
  exfs : ∀ b ∈ X.ex, b ∉ X.fs
  funs : X.s₀.heap.FunFrames X.base X.outer
  frf : ∀ b ∈ X.fs, X.H₀ b = none

structure Inv (X : Cx) (pins : List (Addr × Obj)) (σ : List (Option V)) (H : Hp) (s : Shared) : Prop where
  ok : X.Ok
  os : s.os = X.s₀.os
  bare : AllBare s.gens
  base : Un X.fs X.ex X.H₀ H X.s₀.heap s.heap
  loc : ∃ m, s.heap.Ns X.env.locals m ∧ ∀ (i : Nat) (x : Str) (v : V), X.N[i]? = some x → σ[i]? = some (some v) → Vis X.env.scope x → ∃ u, RelV v u ∧ Look X.env s.heap m x u
  cell : ∀ x c, X.env.cells.lookup x = some c → ∃ v, s.heap.IsCell c v
  free : H X.env.locals = none
  freeC : ∀ x c, X.env.cells.lookup x = some c → H c = none
  pin : ∀ p ∈ X.pn ++ pins, s.heap.get? p.1 = some p.2 ∧ H p.1 = none ∧ p.1 ≠ X.env.locals ∧ p.1 ∉ X.fs ∧ ∀ v, p.2.data ≠ .cell v
  hok : HOk X.prog X.w H s.heap
  len : σ.length = X.N.length

section
variable {X : Cx} {pins : List (Addr × Obj)} {σ : List (Option V)} {H H' : Hp} {s : Shared} {h' : Heap}

theorem Cx.Ok.nofr (ok : X.Ok) {b : Addr} {o : Obj} (e : X.base.get? b = some o) : b ∉ X.fs := fun hb => by
  have := (ok.funs.mem hb).1
  rw [e] at this; cases this
theorem Inv.bs (I : Inv X pins σ H s) : ∀ b o, X.base.get? b = some o → s.heap.get? b = some o ∧ H b = none := fun b o e =>
  ⟨I.base.keep b o (I.ok.bs b o e).1 (I.ok.bs b o e).2 (I.ok.nofr e) (I.ok.noex b o e), I.base.free b o (I.ok.bs b o e).1 (I.ok.bs b o e).2 (I.ok.noex b o e)⟩
theorem Inv.bk (I : Inv X pins σ H s) : ∀ b o, X.base.get? b = some o → s.heap.get? b = some o := fun b o e => (I.bs b o e).1
theorem Inv.mod (I : Inv X pins σ H s) : Mod X.K X.mg X.base := I.ok.mod
theorem Inv.kIn (I : Inv X pins σ H s) : X.K.In s.heap := I.ok.mod.kin.keeps I.bk
theorem Inv.lt (I : Inv X pins σ H s) : X.env.locals < s.heap.objs.size := let ⟨_, hn, _⟩ := I.loc; hn.lt
theorem Inv.sz (I : Inv X pins σ H s) : X.s₀.heap.objs.size ≤ s.heap.objs.size := Nat.le_trans I.ok.above (Nat.le_of_lt I.lt)
theorem Inv.nofs (I : Inv X pins σ H s) {a : Addr} (h : s.heap.objs.size ≤ a) : a ∉ X.fs := fun hb => by
  obtain ⟨_, o, ho, _⟩ := I.ok.funs.mem hb
  exact absurd (Nat.lt_of_lt_of_le (Heap.lt_size ho) (Nat.le_trans I.sz h)) (Nat.lt_irrefl _)
theorem Inv.cne (I : Inv X pins σ H s) : ∀ x c, X.env.cells.lookup x = some c → c ≠ X.env.locals := fun x c e z => by
  obtain ⟨v, o, ho, hd⟩ := I.cell x c e
  obtain ⟨m, ⟨o', es, ep, ho', hd', _⟩, _⟩ := I.loc
  rw [z, ho'] at ho; cases ho; rw [hd'] at hd; cases hd
theorem Inv.funs (I : Inv X pins σ H s) : s.heap.FunFrames X.base X.outer := by
  have all : ∀ (l : List Env), (∀ b ∈ frs l, b ∈ X.fs) → X.s₀.heap.FunFrames X.base l → s.heap.FunFrames X.base l := by
    intro l
    induction l with
    | nil => intro _ _; trivial
    | cons env r ih =>
      intro hs hl
      obtain ⟨hk, ⟨L, o, hf, hn, ho, hd⟩, hr⟩ := hl
      have hL : L ∈ X.fs := hs L (by unfold frs; rw [List.filterMap_cons, hf]; exact List.mem_cons_self)
      obtain ⟨sl, e⟩ := I.base.slot L o ho (I.ok.frf L hL) hL fun z => I.ok.exfs L z hL
      exact ⟨hk, ⟨L, _, hf, hn, e, hd⟩, ih (fun b hb => hs b (by unfold frs; rw [List.filterMap_cons, hf]; exact List.mem_cons_of_mem _ hb)) hr⟩
  exact all X.outer (fun _ hb => hb) I.ok.funs

/-- the frames that run, for a call -/
theorem Inv.stack (I : Inv X pins σ H s) : s.heap.FunFrames X.base X.stack := by
  rcases I.ok.stk with e | ⟨e, hf⟩
  · rw [e]; exact I.funs
  · rw [e]
    obtain ⟨m, hn, _⟩ := I.loc
    refine .cons (by rw [I.ok.kind]; decide) hf hn ?_ I.funs
    exact Heap.get?_none_of_le (Nat.le_trans I.ok.bsz I.ok.above)
theorem Inv.stkSub (I : Inv X pins σ H s) : ∀ b ∈ frs X.stack, b ∈ X.env.locals :: X.fs := fun b hb => by
  rcases I.ok.stk with e | ⟨e, hf⟩
  · rw [e] at hb; exact List.mem_cons_of_mem _ hb
  · rw [e] at hb
    unfold frs at hb
    rw [List.filterMap_cons, hf] at hb
    exact hb
theorem Inv.stkFree (I : Inv X pins σ H s) : ∀ b ∈ frs X.stack, H b = none := fun b hb => by
  rcases List.mem_cons.mp (I.stkSub b hb) with e | hb
  · rw [e]; exact I.free
  · obtain ⟨_, o, ho, _⟩ := I.ok.funs.mem hb
    exact I.base.free b o ho (I.ok.frf b hb) fun z => I.ok.exfs b z hb

/-- THE STEP: the untracked objects but the frame and the records at ch are kept (the callers' frames up to slots), the frame's map is kept, the new abstract heap is held -/
theorem Inv.step {g' : Array GenState} {t' : Nat} {d' : Drawn} {ch : List Addr} (I : Inv X pins σ H s)
    (hch : ∀ b ∈ ch, (b ∈ X.ex ∨ X.s₀.heap.objs.size ≤ b) ∧ b ≠ X.env.locals ∧ (∀ x c, X.env.cells.lookup x = some c → c ≠ b) ∧ ∀ p ∈ X.pn ++ pins, p.1 ≠ b)
    (keep : ∀ b o, b ≠ X.env.locals → b ∉ X.fs → b ∉ ch → s.heap.get? b = some o → H b = none → h'.get? b = some o)
    (slot : ∀ b o, b ≠ X.env.locals → b ∈ X.fs → b ∉ ch → s.heap.get? b = some o → H b = none → ∃ sl, h'.get? b = some { o with slots := sl }) (free : ∀ b o, b ∉ ch → s.heap.get? b = some o → H b = none → H' b = none)
    (there : ∀ b o, b ∉ ch → s.heap.get? b = some o → ∃ o', h'.get? b = some o')
    (tups : ∀ b xs, H b = some (.tup xs) → H' b = some (.tup xs)) (frzs : ∀ b o u, H b = some (.frz o u) → H' b = some (.frz o u)) (tbls : ∀ b ps, H b = some (.tbl ps) → ∃ more, H' b = some (.tbl (ps ++ more)))
    (ns : ∀ m, s.heap.Ns X.env.locals m → h'.Ns X.env.locals m) (hok : HOk X.prog X.w H' h') (hg : AllBare g') :
    Inv X pins σ H' { s with heap := h', gens := g', drawn := d', toks := t' } := by
  have neL : ∀ b o, X.s₀.heap.get? b = some o → b ≠ X.env.locals := fun b o e => Nat.ne_of_lt (Nat.lt_of_lt_of_le (Heap.lt_size e) I.ok.above)
  have neC : ∀ b o, X.s₀.heap.get? b = some o → b ∉ X.ex → b ∉ ch := fun b o e hx hb => by
    rcases (hch b hb).1 with z | z
    · exact hx z
    · exact absurd (Nat.lt_of_lt_of_le (Heap.lt_size e) z) (Nat.lt_irrefl _)
  have cellK : ∀ x c, X.env.cells.lookup x = some c → ∀ v, s.heap.IsCell c v → h'.IsCell c v := fun x c e v ⟨o, ho, hd⟩ => by
    have nch : c ∉ ch := fun z => (hch c z).2.2.1 x c e rfl
    by_cases hc : c ∈ X.fs
    · obtain ⟨sl, q⟩ := slot c o (I.cne x c e) hc nch ho (I.freeC x c e)
      exact ⟨_, q, hd⟩
    · exact ⟨o, keep c o (I.cne x c e) hc nch ho (I.freeC x c e), hd⟩
  refine ⟨I.ok, I.os, hg, ⟨fun b o e n hb hx => ?_, fun b o e n hb hx => ?_, fun b o e n hx => ?_, fun b o e hx => ?_, fun b xs e => tups b xs (I.base.tups b xs e), fun b o xs e => frzs b o xs (I.base.frzs b o xs e), fun b ps e => ?_⟩, ?_, fun x c e => ?_, ?_, fun x c e => ?_, fun p hp => ?_, hok, I.len⟩
  · exact keep b o (neL b o e) hb (neC b o e hx) (I.base.keep b o e n hb hx) (I.base.free b o e n hx)
  · obtain ⟨sl, e1⟩ := I.base.slot b o e n hb hx
    obtain ⟨sl', e2⟩ := slot b _ (neL b o e) hb (neC b o e hx) e1 (I.base.free b o e n hx)
    exact ⟨sl', e2⟩
  · obtain ⟨o', e1⟩ := I.base.there b o e hx
    exact free b o' (neC b o e hx) e1 (I.base.free b o e n hx)
  · obtain ⟨o', e1⟩ := I.base.there b o e hx
    exact there b o' (neC b o e hx) e1
  · obtain ⟨m1, e1⟩ := I.base.tbls b ps e
    obtain ⟨m2, e2⟩ := tbls b _ e1
    exact ⟨m1 ++ m2, by rw [e2, Array.append_assoc]⟩
  · obtain ⟨m, hn, hl⟩ := I.loc
    refine ⟨m, ns m hn, fun i x v e1 e2 e3 => ?_⟩
    obtain ⟨u, r, l⟩ := hl i x v e1 e2 e3
    refine ⟨u, r, ?_⟩
    rcases l with l | ⟨k, c, e, z⟩
    · exact .inl l
    · exact .inr ⟨k, c, e, cellK x c e _ z⟩
  · obtain ⟨v, z⟩ := I.cell x c e
    exact ⟨v, cellK x c e v z⟩
  · obtain ⟨m, ⟨o, _, _, ho, _⟩, _⟩ := I.loc
    exact free _ o (fun z => (hch _ z).2.1 rfl) ho I.free
  · obtain ⟨v, o, ho, hd⟩ := I.cell x c e
    exact free c o (fun z => (hch c z).2.2.1 x c e rfl) ho (I.freeC x c e)
  · obtain ⟨e, n, ne, nf, d⟩ := I.pin p hp
    have nch : p.1 ∉ ch := fun z => (hch p.1 z).2.2.2 p hp rfl
    exact ⟨keep p.1 p.2 ne nf nch e n, free p.1 p.2 nch e n, ne, nf, d⟩
/-- .. where the frame's own object is kept too -/
theorem Inv.un {t' : Nat} (I : Inv X pins σ H s) (u : Un X.fs [] H H' s.heap h') (hok : HOk X.prog X.w H' h') : Inv X pins σ H' { s with heap := h', toks := t' } := by
  obtain ⟨m, ⟨o, es, ep, ho, r⟩, _⟩ := id I.loc
  obtain ⟨sl, hL⟩ := u.any ho I.free (by simp)
  exact I.step (g' := s.gens) (d' := s.drawn) (ch := []) (fun _ z => nomatch z) (fun b o _ hb _ e n => u.keep b o e n hb (by simp)) (fun b o _ hb _ e n => u.slot b o e n hb (by simp)) (fun b o _ e n => u.free b o e n (by simp)) (fun b o _ e => u.there b o e (by simp)) u.tups u.frzs u.tbls (fun m' hm => by
    obtain ⟨o', es', ep', ho', r'⟩ := hm
    rw [ho] at ho'; cases ho'
    exact ⟨_, es', ep', hL, r'⟩) hok I.bare
/-- behind a call (or a comprehension's block): the slots of this frame may have changed too, the records at ch may have turned -/
theorem Inv.call {g' : Array GenState} {t' : Nat} {d' : Drawn} {ch : List Addr} (I : Inv X pins σ H s) (u : Un (frs X.stack) ch H H' s.heap h') (hok : HOk X.prog X.w H' h') (hg : AllBare g')
    (hch : ∀ b ∈ ch, (b ∈ X.ex ∨ X.s₀.heap.objs.size ≤ b) ∧ b ≠ X.env.locals ∧ (∀ x c, X.env.cells.lookup x = some c → c ≠ b) ∧ ∀ p ∈ X.pn ++ pins, p.1 ≠ b) :
    Inv X pins σ H' { s with heap := h', gens := g', drawn := d', toks := t' } := by
  obtain ⟨m, ⟨o, es, ep, ho, r⟩, _⟩ := id I.loc
  obtain ⟨sl, hL⟩ := u.any ho I.free fun z => (hch _ z).2.1 rfl
  exact I.step (ch := ch) hch (fun b o hL hb hc e n => u.keep b o e n (fun z => (List.mem_cons.mp (I.stkSub b z)).elim hL hb) hc) (fun b o _ _ hc e n => u.any e n hc) (fun b o hc e n => u.free b o e n hc) (fun b o hc e => u.there b o e hc) u.tups u.frzs u.tbls (fun m' hm => by
    obtain ⟨o', es', ep', ho', r'⟩ := hm
    rw [ho] at ho'; cases ho'
    exact ⟨_, es', ep', hL, r'⟩) hok hg
/-- an untracked record of ours (an iterator) has turned -/
theorem Inv.turned {t' : Nat} {it : Addr} (I : Inv X pins σ H s) (k : ∀ b o, b ≠ it → s.heap.get? b = some o → h'.get? b = some o) (hn : H it = none) (hL : it ≠ X.env.locals)
    (h1 : it ∈ X.ex ∨ X.s₀.heap.objs.size ≤ it) (h2 : ∀ x c, X.env.cells.lookup x = some c → c ≠ it) (h3 : ∀ p ∈ X.pn ++ pins, p.1 ≠ it) : Inv X pins σ H { s with heap := h', toks := t' } := by
  have nit : ∀ b u, H b = some u → b ≠ it := fun b u e z => by rw [z, hn] at e; cases e
  refine I.step (g' := s.gens) (d' := s.drawn) (ch := [it]) (fun b hb => ?_) (fun b o _ _ hc e _ => k b o (fun z => hc (by simp [z])) e) (fun b o _ _ hc e _ => ⟨o.slots, k b o (fun z => hc (by simp [z])) e⟩) (fun _ _ _ _ n => n)
    (fun b o hc e => ⟨o, k b o (fun z => hc (by simp [z])) e⟩) (fun _ _ e => e) (fun _ _ _ e => e) (fun b ps e => ⟨#[], by rw [e]; simp⟩) (fun m hm => ?_) (fun b u e => ?_) I.bare
  · have e : b = it := by simpa using hb
    subst e
    exact ⟨h1, hL, h2, h3⟩
  · obtain ⟨o, es, ep, ho, r⟩ := hm
    exact ⟨o, es, ep, k _ o (Ne.symm hL) ho, r⟩
  · refine (I.hok b u e).stay (fun c v hc q => k c v ?_ q) (fun _ q => q) fun _ _ q => q
    rcases hc with z | z
    · rw [z]; exact nit b u e
    · exact nit c _ z
theorem Inv.tok (I : Inv X pins σ H s) (t : Nat) : Inv X pins σ H { s with toks := t } := I.un (h' := s.heap) (t' := t) Un.refl I.hok
/-- all objects kept -/
theorem Inv.kept {t' : Nat} (I : Inv X pins σ H s) (k : ∀ b u, s.heap.get? b = some u → h'.get? b = some u) : Inv X pins σ H { s with heap := h', toks := t' } := I.un (Un.kept k) (I.hok.kept k)
/-- a new object laid and tracked -/
theorem Inv.laid {a : Addr} {o : HO} {t' : Nat} (I : Inv X pins σ H s) (k : ∀ b u, s.heap.get? b = some u → h'.get? b = some u) (hp : s.heap.objs.size ≤ a) (new : ObjOk X.prog X.w (upd H a o) h' a o) :
    Inv X pins σ (upd H a o) { s with heap := h', toks := t' } := I.un (Un.laid k hp (I.hok.fresh hp)) (I.hok.laid k hp new)
/-- an object written -/
theorem Inv.write {x e : Addr} {o : HO} {t' : Nat} (I : Inv X pins σ H s) (mu : Mut (H x)) (he : e = x ∨ H e = some (.own x)) (k : ∀ b u, b ≠ e → s.heap.get? b = some u → h'.get? b = some u) (heo : ∃ u, h'.get? e = some u)
    (new : ObjOk X.prog X.w (upd H x o) h' x o) : Inv X pins σ (upd H x o) { s with heap := h', toks := t' } := I.un (Un.write mu he k heo) (I.hok.write mu he k heo new)
/-- forgetting slots, pins -/
theorem Inv.weak {σ' : List (Option V)} (I : Inv X pins σ H s) (hl : σ'.length = σ.length) (w : ∀ (i : Nat) v, σ'[i]? = some (some v) → σ[i]? = some (some v)) : Inv X pins σ' H s :=
  ⟨I.ok, I.os, I.bare, I.base, let ⟨m, hn, hl'⟩ := I.loc; ⟨m, hn, fun i x v e1 e2 e3 => hl' i x v e1 (w i v e2) e3⟩, I.cell, I.free, I.freeC, I.pin, I.hok, hl.trans I.len⟩
theorem Inv.pins_of {pins' : List (Addr × Obj)} (I : Inv X pins σ H s) (h : ∀ p ∈ pins', s.heap.get? p.1 = some p.2 ∧ H p.1 = none ∧ p.1 ≠ X.env.locals ∧ p.1 ∉ X.fs ∧ ∀ v, p.2.data ≠ .cell v) : Inv X pins' σ H s :=
  ⟨I.ok, I.os, I.bare, I.base, I.loc, I.cell, I.free, I.freeC, fun p hp => (List.mem_append.mp hp).elim (fun z => I.pin p (List.mem_append_left _ z)) (h p), I.hok, I.len⟩

theorem nodup_ix {N : List Str} (hN : N.Nodup) {i j : Nat} {x : Str} (a : N[i]? = some x) (b : N[j]? = some x) : i = j := by
  obtain ⟨h1, e1⟩ := List.getElem?_eq_some_iff.mp a
  obtain ⟨h2, e2⟩ := List.getElem?_eq_some_iff.mp b
  exact (List.getElem_inj hN).mp (e1.trans e2.symm)

/-- a name is stored; what changed -/
theorem store_ok2 {M : Model} {A : Around} {E : Value → Shared → Prop} {i : Nat} {x : Str} {v : V} {u : Value} {Q : Unit → Shared → Prop} (I : Inv X pins σ H s) (hN : X.N.Nodup) (hi : X.N[i]? = some x) (hx : Loc X.env.scope x) (r : RelV v u)
    (h : ∀ s', Inv X pins (σ.set i (some v)) H s' → (∃ a, Heap.SameBut a s.heap s'.heap ∧ (a = X.env.locals ∨ X.env.cells.lookup x = some a)) → Q () s') (hf : X.fn x = true ∨ X.env.scope.names.lookup x = some .local := by first | exact .inl rfl | exact .inr rfl | assumption) : wpAny M A (storeName X.env x u) Q E s := by
  obtain ⟨m, hn, hl⟩ := id I.loc
  have hcls : (X.env.scope.kind == .class || (X.env.scope.kind == .module && X.env.locals != X.env.globals)) = false := by rw [I.ok.kind]; rfl
  have hiσ : i < σ.length := by rw [I.len]; exact (List.getElem?_eq_some_iff.mp hi).1
  have cne := I.cne
  have tracked : ∀ {a : Addr} {h' : Heap}, (∃ o, s.heap.get? a = some o ∧ H a = none) → Heap.SameBut a s.heap h' → HOk X.prog X.w H h' := fun {a h'} ha hs b ob e => by
    obtain ⟨_, _, hfree⟩ := ha
    refine (I.hok b ob e).stay (fun c w' hc q => (hs.2 c ?_).trans q) (fun _ q => q) fun _ _ q => q
    rintro rfl
    rcases hc with rfl | hc
    · rw [hfree] at e; cases e
    · rw [hfree] at hc; cases hc
  rcases hx with hk | hk
  · refine wpAny_storeName_local hk hn (fun h' hn' hs => ?_) hcls
    obtain ⟨oL, _, _, hoL, _⟩ := id hn
    refine h _ ⟨I.ok, I.os, I.bare, ⟨fun b o e n hb hx => ?_, fun b o e n hb hx => ?_, I.base.free, fun b o e hx => ?_, I.base.tups, I.base.frzs, I.base.tbls⟩, ⟨_, hn', fun j y v' e1 e2 e3 => ?_⟩, fun y c e => ?_, I.free, I.freeC, fun p hp => ?_, tracked ⟨oL, hoL, I.free⟩ hs, by simpa using I.len⟩ ⟨_, hs, .inl rfl⟩
    · exact (hs.2 b (Nat.ne_of_lt (Nat.lt_of_lt_of_le (Heap.lt_size e) I.ok.above))).trans (I.base.keep b o e n hb hx)
    · obtain ⟨sl, e1⟩ := I.base.slot b o e n hb hx
      exact ⟨sl, (hs.2 b (Nat.ne_of_lt (Nat.lt_of_lt_of_le (Heap.lt_size e) I.ok.above))).trans e1⟩
    · obtain ⟨o', e1⟩ := I.base.there b o e hx
      exact ⟨o', (hs.2 b (Nat.ne_of_lt (Nat.lt_of_lt_of_le (Heap.lt_size e) I.ok.above))).trans e1⟩
    · by_cases hj : j = i
      · subst hj
        rw [hi] at e1; cases e1
        rw [List.getElem?_set_self hiσ] at e2
        cases e2
        exact ⟨u, r, .inl ⟨hk, by simp⟩⟩
      · rw [List.getElem?_set_ne (Ne.symm hj)] at e2
        obtain ⟨u', r', q⟩ := hl j y v' e1 e2 e3
        refine ⟨u', r', ?_⟩
        rcases q with ⟨k, e⟩ | ⟨k, c, e, z⟩
        · refine .inl ⟨k, ?_⟩
          have : y ≠ x := fun e => hj (nodup_ix hN e1 (e ▸ hi))
          simp [this, e]
        · exact .inr ⟨k, c, e, z.sameBut hs (cne y c e)⟩
    · obtain ⟨w', z⟩ := I.cell y c e
      exact ⟨w', z.sameBut hs (cne y c e)⟩
    · obtain ⟨e, n, ne, nf, d⟩ := I.pin p hp
      exact ⟨(hs.2 p.1 ne).trans e, n, ne, nf, d⟩
  · have hfn : X.fn x = true := by
      rcases hf with z | z
      · exact z
      · rw [z] at hk; cases hk
    obtain ⟨c, hc⟩ := I.ok.has x (.inl hk)
    obtain ⟨w', z⟩ := I.cell x c hc
    refine wpAny_storeName_cell I.ok.kind hk hc z (fun h' hc' hs => ?_)
    obtain ⟨oc, hoc, hocd⟩ := id z
    refine h { s with heap := h' } ⟨I.ok, I.os, I.bare, ⟨fun b o e n hb hx => ?_, fun b o e n hb hx => ?_, I.base.free, fun b o e hx => ?_, I.base.tups, I.base.frzs, I.base.tbls⟩, ⟨m, hn.sameBut hs (Ne.symm (cne x c hc)), fun j y v' e1 e2 e3 => ?_⟩, fun y c' e => ?_, I.free, I.freeC, fun p hp => ?_, tracked ⟨oc, hoc, I.freeC x c hc⟩ hs, by simpa using I.len⟩ ⟨c, hs, .inr hc⟩
    · exact (hs.2 b (Nat.ne_of_lt (Nat.lt_of_lt_of_le (Heap.lt_size e) (I.ok.cab x c hfn hc)))).trans (I.base.keep b o e n hb hx)
    · obtain ⟨sl, e1⟩ := I.base.slot b o e n hb hx
      exact ⟨sl, (hs.2 b (Nat.ne_of_lt (Nat.lt_of_lt_of_le (Heap.lt_size e) (I.ok.cab x c hfn hc)))).trans e1⟩
    · obtain ⟨o', e1⟩ := I.base.there b o e hx
      exact ⟨o', (hs.2 b (Nat.ne_of_lt (Nat.lt_of_lt_of_le (Heap.lt_size e) (I.ok.cab x c hfn hc)))).trans e1⟩
    · by_cases hj : j = i
      · subst hj
        rw [hi] at e1; cases e1
        rw [List.getElem?_set_self hiσ] at e2
        cases e2
        exact ⟨u, r, .inr ⟨.inl hk, c, hc, hc'⟩⟩
      · rw [List.getElem?_set_ne (Ne.symm hj)] at e2
        obtain ⟨u', r', q⟩ := hl j y v' e1 e2 e3
        refine ⟨u', r', ?_⟩
        rcases q with q | ⟨k, c', e, z'⟩
        · exact .inl q
        · refine .inr ⟨k, c', e, z'.sameBut hs ?_⟩
          rintro rfl
          exact hj (nodup_ix hN e1 (I.ok.inj _ _ _ e hc ▸ hi))
    · by_cases hcc : c' = c
      · subst hcc; exact ⟨_, hc'⟩
      · obtain ⟨w2, z2⟩ := I.cell y c' e
        exact ⟨w2, z2.sameBut hs hcc⟩
    · obtain ⟨e, n, ne, nf, d⟩ := I.pin p hp
      refine ⟨(hs.2 p.1 ?_).trans e, n, ne, nf, d⟩
      intro q
      rw [q, hoc] at e
      have q' : oc = p.2 := Option.some.inj e
      exact d w' (by rw [← q']; exact hocd)
theorem store_ok {M : Model} {A : Around} {E : Value → Shared → Prop} {i : Nat} {x : Str} {v : V} {u : Value} {Q : Unit → Shared → Prop} (I : Inv X pins σ H s) (hN : X.N.Nodup) (hi : X.N[i]? = some x) (hx : Loc X.env.scope x) (r : RelV v u)
    (h : ∀ s', Inv X pins (σ.set i (some v)) H s' → Q () s') (hf : X.fn x = true ∨ X.env.scope.names.lookup x = some .local := by first | exact .inl rfl | exact .inr rfl | assumption) : wpAny M A (storeName X.env x u) Q E s :=
  store_ok2 I hN hi hx r (fun s' I' _ => h s' I') hf
/-- behind a call or a block, the state as it is -/
theorem Inv.call' {s' : Shared} {ch : List Addr} (I : Inv X pins σ H s) (ho : s'.os = s.os) (u : Un (frs X.stack) ch H H' s.heap s'.heap) (hok : HOk X.prog X.w H' s'.heap) (hg : AllBare s'.gens)
    (hch : ∀ b ∈ ch, (b ∈ X.ex ∨ X.s₀.heap.objs.size ≤ b) ∧ b ≠ X.env.locals ∧ (∀ x c, X.env.cells.lookup x = some c → c ≠ b) ∧ ∀ p ∈ X.pn ++ pins, p.1 ≠ b) : Inv X pins σ H' s' := by
  obtain ⟨h', g', d', t', o'⟩ := s'
  have e : o' = s.os := ho
  subst e
  exact I.call (g' := g') (t' := t') (d' := d') u hok hg hch
end

/-! ### the judgements -/
/-- an exception: its class, its own dict's address (where it has one), the abstract heap behind it -/
abbrev XK := Value → Option Addr → Hp → Prop
abbrev St := List (Option V)
abbrev VK := V → Hp → Prop
/-- an expression's reading; a test's; an argument list's -/
abbrev TE := St → Hp → VK → Prop
abbrev TT := St → Hp → (Bool → Hp → Prop) → Prop
abbrev TA := St → Hp → (List V → Hp → Prop) → Prop
/-- what is wanted behind a statement -/
structure Ends where
  nx : St → Hp → Prop
  rt : VK
  bk : St → Hp → Prop := fun _ _ => False
  ct : St → Hp → Prop := fun _ _ => False
abbrev TS := Ends → St → Hp → Prop

def EP (X : Cx) (pins : List (Addr × Obj)) (σ : St) (Q : VK) (u : Value) (s' : Shared) : Prop := ∃ v H', Inv X pins σ H' s' ∧ RelV v u ∧ Q v H'
def TP (X : Cx) (pins : List (Addr × Obj)) (σ : St) (Q : Bool → Hp → Prop) (b : Bool) (s' : Shared) : Prop := ∃ H', Inv X pins σ H' s' ∧ Q b H'
def AP (X : Cx) (pins : List (Addr × Obj)) (σ : St) (Q : List V → Hp → Prop) (us : List Value) (s' : Shared) : Prop := ∃ vs H', Inv X pins σ H' s' ∧ Vals vs us ∧ Q vs H'
def SP (X : Cx) (pins : List (Addr × Obj)) (D : Ends) (f : Flow) (s' : Shared) : Prop :=
  match f with
  | .next => ∃ σ' H', Inv X pins σ' H' s' ∧ D.nx σ' H'
  | .brk => ∃ σ' H', Inv X pins σ' H' s' ∧ D.bk σ' H'
  | .cont => ∃ σ' H', Inv X pins σ' H' s' ∧ D.ct σ' H'
  | .ret u => ∃ v σ' H', Inv X pins σ' H' s' ∧ RelV v u ∧ D.rt v H'

def PE (X : Cx) (e : Expr) (t : TE) : Prop :=
  ∀ (pins : List (Addr × Obj)) (s : Shared) (σ : St) (H : Hp) (Q : VK), Inv X pins σ H s → t σ H Q → wpAny (model X.prog X.w) X.A (eval e X.env) (EP X pins σ Q) X.xe s
def PT (X : Cx) (e : Expr) (t : TT) : Prop :=
  ∀ (pins : List (Addr × Obj)) (s : Shared) (σ : St) (H : Hp) (Q : Bool → Hp → Prop), Inv X pins σ H s → t σ H Q → wpAny (model X.prog X.w) X.A (isTrue e X.env (eval e X.env)) (TP X pins σ Q) X.xe s
/-- a test whatever its 'whole' is (and, or) -/
def PW (X : Cx) (e : Expr) (t : TT) : Prop :=
  ∀ (whole : Sem Value) (pins : List (Addr × Obj)) (s : Shared) (σ : St) (H : Hp) (Q : Bool → Hp → Prop), Inv X pins σ H s → t σ H Q → wpAny (model X.prog X.w) X.A (isTrue e X.env whole) (TP X pins σ Q) X.xe s
theorem PW.pt {X : Cx} {e : Expr} {t : TT} (h : PW X e t) : PT X e t := h _
/-- an argument list (no star), from the left -/
def PA (X : Cx) (es : List Expr) (t : TA) : Prop :=
  ∀ (pos : Pos) (pins : List (Addr × Obj)) (s : Shared) (σ : St) (H : Hp) (Q : List V → Hp → Prop), Inv X pins σ H s → t σ H Q → wpAny (model X.prog X.w) X.A (spliced (backTo pos (starEach es X.env))) (AP X pins σ Q) X.xe s
def PS (X : Cx) (st : Stmt) (t : TS) : Prop :=
  ∀ (pins : List (Addr × Obj)) (s : Shared) (σ : St) (H : Hp) (D : Ends), Inv X pins σ H s → t D σ H → wpAny (model X.prog X.w) X.A (exec st X.env) (SP X pins D) X.xe s
def PSs (X : Cx) (st : List Stmt) (t : TS) : Prop :=
  ∀ (pins : List (Addr × Obj)) (s : Shared) (σ : St) (H : Hp) (D : Ends), Inv X pins σ H s → t D σ H → wpAny (model X.prog X.w) X.A (execs st X.env) (SP X pins D) X.xe s
/-- weaken the end -/
theorem thn {α : Type} {t : Sem α} {Q Q' : α → Shared → Prop} {M : Model} {A : Around} {E : Value → Shared → Prop} {s : Shared} (h : wpAny M A t Q E s) (hQ : ∀ a s, Q a s → Q' a s) : wpAny M A t Q' E s := wpAny_mono h hQ fun _ _ x => x
end L2

namespace L2
open PySem PySem.Spec PyProof.Rows
section
variable {X : Cx}


/-! ### names and constants -/
def tVar (i : Nat) : TE := fun σ H Q => ∃ v, σ[i]? = some (some v) ∧ Q v H
def tC (v : V) : TE := fun _ H Q => Q v H
theorem pe_var {i : Nat} {x : Str} {pos : Pos} (hN : X.N[i]? = some x) (hv : Vis X.env.scope x) (hd : (x == ("__debug__" : Str)) = false := by decide) (hcd : (x == ("__classdict__" : Str)) = false := by decide) : PE X (.Name x pos) (tVar i) := by
  intro pins s σ H Q I h
  obtain ⟨v, e, h⟩ := h
  obtain ⟨m, hn, hl⟩ := I.loc
  obtain ⟨u, r, l⟩ := hl i x v hN e hv
  have fin : EP X pins σ Q u s := ⟨v, H, I, r, h⟩
  rcases l with ⟨hk, hm⟩ | ⟨hk, c, hc, hcell⟩
  · exact wpAny_Name (wpAny_loadName_local I.ok.kind hk hn hm fin) hd
  · rcases hk with hk | hk
    · exact wpAny_Name (wpAny_loadName_cell I.ok.kind hk hc hcell fin) hd
    · exact wpAny_Name (wpAny_loadName_free I.ok.kind hk hc hcell fin hcd) hd
theorem pe_int {i j pos} : PE X (.Constant (.int i) j pos) (tC (.int i)) := fun _ _ _ H _ I h => wpAny_Constant_int ⟨.int i, H, I.tok _, ⟨_, rfl⟩, h⟩
theorem pe_bl {b j pos} : PE X (.Constant (.bool b) j pos) (tC (.bl b)) := fun _ _ _ H _ I h => Constant_bool ⟨.bl b, H, I, rfl, h⟩
theorem pe_non {j pos} : PE X (.Constant .none j pos) (tC .non) := fun _ _ _ H _ I h => Constant_none ⟨.non, H, I, rfl, h⟩
theorem pe_str {x j pos} : PE X (.Constant (.str x) j pos) (tC (.str x)) := fun _ _ _ H _ I h => Calls.Constant_str ⟨.str x, H, I.tok _, ⟨_, rfl⟩, h⟩

/-- a global name of the def -/
def Gl (X : Cx) (x : Str) : Prop := X.env.kindOf x = some .globalImplicit
theorem ld_glob {E : Value → Shared → Prop} {pins : List (Addr × Obj)} {s : Shared} {σ : St} {H : Hp} {x : Str} {u : Value} {pos : Pos} {Q : Value → Shared → Prop} (I : Inv X pins σ H s) (hg : Gl X x) (hm : X.mg x = some u) (h : Q u s)
    (hd : (x == ("__debug__" : Str)) = false := by decide) : wpAny (model X.prog X.w) X.A (eval (.Name x pos) X.env) Q E s :=
  Calls.Name_function_global I.ok.kind hg (Calls.loadGlobal_global (by rw [I.ok.glob]; exact I.mod.glob.keeps I.bk) hm h) hd
theorem ld_blt {E : Value → Shared → Prop} {pins : List (Addr × Obj)} {s : Shared} {σ : St} {H : Hp} {x : Str} {u : Value} {pos : Pos} {Q : Value → Shared → Prop} (I : Inv X pins σ H s) (hg : Gl X x) (hm : X.mg x = none) (hv : bootBuiltins x = some u) (h : Q u s)
    (hn : x ≠ "__name__" := by decide) (hd : (x == ("__debug__" : Str)) = false := by decide) : wpAny (model X.prog X.w) X.A (eval (.Name x pos) X.env) Q E s := by
  obtain ⟨mb, h1, h2⟩ := I.mod.blt
  exact Calls.Name_function_global I.ok.kind hg (Calls.loadGlobal_builtin (by rw [I.ok.glob]; exact I.mod.glob.keeps I.bk) hm (by rw [I.ok.blt]; exact h1.keeps I.bk) ((h2 x hn).trans hv) h) hd
/-- a module's constant, a class, a function, as a value -/
theorem pe_glob {x : Str} {v : V} {u : Value} {pos : Pos} (hg : Gl X x) (hm : X.mg x = some u) (r : RelV v u) (hd : (x == ("__debug__" : Str)) = false := by decide) : PE X (.Name x pos) (tC v) :=
  fun _ _ _ H _ I h => ld_glob I hg hm ⟨v, H, I, r, h⟩ hd
theorem pe_bltn {x : Str} {v : V} {u : Value} {pos : Pos} (hg : Gl X x) (hm : X.mg x = none) (hv : bootBuiltins x = some u) (r : RelV v u) (hn : x ≠ "__name__" := by decide) (hd : (x == ("__debug__" : Str)) = false := by decide) : PE X (.Name x pos) (tC v) :=
  fun _ _ _ H _ I h => ld_blt I hg hm hv ⟨v, H, I, r, h⟩ hn hd

/-! ### arithmetic -/
variable {a b : Expr} {ta tb : TE} {pos : Pos}

/-! ### comparisons -/
/-- a comparison as a value, as a test -/
def tB (t : TE) : TT := fun σ H Q => t σ H fun x H1 => ∃ c, x = .bl c ∧ Q c H1
/-- an expression whose value is a bool, as a test -/
theorem pt_val {e : Expr} {t : TE} (h : PE X e t) (he : ∀ whole, isTrue e X.env whole = (do let v ← whole; standAt e.pos; holding [v] (truthy v)) := by intro _; rfl) : PT X e (tB t) := by
  intro pins s σ H Q I hw
  refine isTrue_plain (thn (h pins s σ H _ I hw) fun v s1 ⟨x, H1, I1, r1, q1⟩ => ?_) (he _)
  obtain ⟨d, rfl, q⟩ := q1
  cases r1
  exact wpAny_truthy_bool ⟨H1, I1, q⟩

/-! ### and, or, not -/
variable {tA tB' : TT} {rest : List Expr}
def tAnd (t u : TT) : TT := fun σ H Q => t σ H fun c H1 => if c = true then u σ H1 Q else Q false H1
def tOr (t u : TT) : TT := fun σ H Q => t σ H fun c H1 => if c = true then Q true H1 else u σ H1 Q
def tNot (t : TT) : TT := fun σ H Q => t σ H fun c H1 => Q (!c) H1
theorem pw_and1 (ha : PT X a tA) : PW X (.BoolOp .And [a] pos) tA := by
  intro wh pins s σ H Q I h
  refine isTrue_and (thn (ha pins s σ H Q I h) fun c s1 e => ?_)
  cases c with
  | true => exact isTrue_and_nil e
  | false => exact e
theorem pw_or1 (ha : PT X a tA) : PW X (.BoolOp .Or [a] pos) tA := by
  intro wh pins s σ H Q I h
  refine isTrue_or (thn (ha pins s σ H Q I h) fun c s1 e => ?_)
  cases c with
  | false => exact isTrue_or_nil e
  | true => exact e
theorem pw_and (ha : PT X a tA) (hb : PW X (.BoolOp .And (b :: rest) pos) tB') : PW X (.BoolOp .And (a :: b :: rest) pos) (tAnd tA tB') := by
  intro wh pins s σ H Q I h
  refine isTrue_and (thn (ha pins s σ H _ I h) fun c s1 ⟨H1, I1, q1⟩ => ?_)
  cases c with
  | true => exact hb wh pins s1 σ H1 Q I1 q1
  | false => exact ⟨H1, I1, q1⟩
theorem pw_or (ha : PT X a tA) (hb : PW X (.BoolOp .Or (b :: rest) pos) tB') : PW X (.BoolOp .Or (a :: b :: rest) pos) (tOr tA tB') := by
  intro wh pins s σ H Q I h
  refine isTrue_or (thn (ha pins s σ H _ I h) fun c s1 ⟨H1, I1, q1⟩ => ?_)
  cases c with
  | true => exact ⟨H1, I1, q1⟩
  | false => exact hb wh pins s1 σ H1 Q I1 q1
theorem pt_not (ha : PT X a tA) : PT X (.UnaryOp .Not a pos) (tNot tA) := by
  intro pins s σ H Q I h
  exact isTrue_not (ha pins s σ H (fun c H1 => Q (!c) H1) I h)
/-- .. as values (bools) -/
def tAndV (ta tb : TE) : TE := fun σ H Q => ta σ H fun x H1 => ∃ c, x = .bl c ∧ if c = true then tb σ H1 Q else Q (.bl false) H1
def tOrV (ta tb : TE) : TE := fun σ H Q => ta σ H fun x H1 => ∃ c, x = .bl c ∧ if c = true then Q (.bl true) H1 else tb σ H1 Q
def tNotV (ta : TE) : TE := fun σ H Q => ta σ H fun x H1 => ∃ c, x = .bl c ∧ Q (.bl (!c)) H1
theorem pe_one {op} {t : TE} (h : PE X a t) : PE X (.BoolOp op [a] pos) t := fun pins s σ H Q I hw => BoolOp_one (h pins s σ H Q I hw)
theorem pe_and (ha : PE X a ta) (hb : PE X (.BoolOp .And (b :: rest) pos) tb) : PE X (.BoolOp .And (a :: b :: rest) pos) (tAndV ta tb) := by
  intro pins s σ H Q I h
  refine BoolOp_and (thn (ha pins s σ H _ I h) fun v s1 ⟨x, H1, I1, r1, q1⟩ => ?_)
  obtain ⟨c, rfl, q1⟩ := q1
  cases r1
  refine wpAny_truthy_bool ?_
  cases c with
  | true => exact hb pins s1 σ H1 Q I1 q1
  | false => exact ⟨.bl false, H1, I1, rfl, q1⟩
theorem pe_or (ha : PE X a ta) (hb : PE X (.BoolOp .Or (b :: rest) pos) tb) : PE X (.BoolOp .Or (a :: b :: rest) pos) (tOrV ta tb) := by
  intro pins s σ H Q I h
  refine BoolOp_or (thn (ha pins s σ H _ I h) fun v s1 ⟨x, H1, I1, r1, q1⟩ => ?_)
  obtain ⟨c, rfl, q1⟩ := q1
  cases r1
  refine wpAny_truthy_bool ?_
  cases c with
  | false => exact hb pins s1 σ H1 Q I1 q1
  | true => exact ⟨.bl true, H1, I1, rfl, q1⟩
theorem pe_not (ha : PE X a ta) : PE X (.UnaryOp .Not a pos) (tNotV ta) := by
  intro pins s σ H Q I h
  refine UnaryOp_ (thn (ha pins s σ H _ I h) fun v s1 ⟨x, H1, I1, r1, q1⟩ => ?_)
  obtain ⟨c, rfl, q1⟩ := q1
  cases r1
  exact not_of (wpAny_truthy_bool ⟨.bl (!c), H1, I1, rfl, q1⟩)
end
end L2

namespace L2
open PySem PySem.Spec PyProof.Rows

/-! ### a list, a tuple that is read: tracked, frozen, or an object of the module -/
def SqL (K : PySem.W.Frag) (H : Hp) (a : Addr) (xs : List V) : Prop :=
  Rd H a (.lst xs) ∨
    ∃ (o : Obj) (its : Array Value) (n : Nat), K.lookup a = some o ∧ o.cls = .type "list" ∧ o.dict = none ∧ o.data = .seq its n ∧ its.size ≤ sizeLine ∧ Vals xs its.toList
def SqT (K : PySem.W.Frag) (H : Hp) (a : Addr) (xs : List V) : Prop :=
  Rd H a (.tup xs) ∨
    ∃ (o : Obj) (its : Array Value) (n : Nat), K.lookup a = some o ∧ o.cls = .type "tuple" ∧ o.data = .seq its n ∧ its.size ≤ sizeLine ∧ Vals xs its.toList
def absV : Value → Option V
  | .none => some .non
  | .bool b => some (.bl b)
  | .int i _ => some (.int i)
  | .str x _ => some (.str x)
  | .bytes b _ => some (.byt b)
  | .float b _ => some (.flt b)
  | .ref a => some (.ref a)
  | .type n => some (.ty n)
  | _ => none
theorem RelV.abs {x : V} {u : Value} (r : RelV x u) : absV u = some x := by
  cases x with
  | non => cases r; rfl
  | bl _ => cases r; rfl
  | int _ => obtain ⟨t, rfl⟩ := r; rfl
  | str _ => obtain ⟨t, rfl⟩ := r; rfl
  | byt _ => obtain ⟨t, rfl⟩ := r; rfl
  | flt _ => obtain ⟨t, rfl⟩ := r; rfl
  | ref _ => cases r; rfl
  | ty _ => cases r; rfl
theorem RelV.inj {x y : V} {u : Value} (r : RelV x u) (q : RelV y u) : x = y := Option.some.inj (r.abs.symm.trans q.abs)
theorem Vals.inj : ∀ {xs ys : List V} {us : List Value}, Vals xs us → Vals ys us → xs = ys
  | _, _, _, .nil, .nil => rfl
  | _, _, _, .cons r t, .cons r' t' => by rw [r.inj r', Vals.inj t t']
section
variable {X : Cx} {pins : List (Addr × Obj)} {σ : St} {H : Hp} {s : Shared} {a : Addr} {xs ys : List V}
theorem SqL.of {K : PySem.W.Frag} (h : H a = some (.lst xs)) : SqL K H a xs := .inl (.inl h)
theorem SqT.of {K : PySem.W.Frag} (h : H a = some (.tup xs)) : SqT K H a xs := .inl (.inl h)
theorem Inv.list (I : Inv X pins σ H s) (h : SqL X.K H a xs) : ∃ its : List Value, Vals xs its ∧ PlainL s.heap a its.toArray ∧ xs.length ≤ sizeLine := by
  rcases h with h | ⟨o, its, n, hk, hc, hd, hs, hz, r⟩
  · obtain ⟨z, its, n, r, e⟩ := h.ok I.hok
    exact ⟨its, r, ⟨_, n, e, rfl, rfl, rfl⟩, z⟩
  · refine ⟨its.toList, r, ⟨o, n, I.kIn a o hk, hc, hd, by simpa using hs⟩, ?_⟩
    have e := r.length
    simp only [Array.length_toList] at e
    omega
theorem Inv.tuple (I : Inv X pins σ H s) (h : SqT X.K H a xs) : ∃ its : List Value, Vals xs its ∧ IsTup s.heap a its.toArray ∧ xs.length ≤ sizeLine := by
  rcases h with h | ⟨o, its, n, hk, hc, hs, hz, r⟩
  · obtain ⟨z, its, r, p⟩ := h.ok I.hok
    exact ⟨its, r, p, z⟩
  · refine ⟨its.toList, r, ⟨o, I.kIn a o hk, hc, n, by simpa using hs⟩, ?_⟩
    have e := r.length
    simp only [Array.length_toList] at e
    omega
theorem Inv.list_inj (I : Inv X pins σ H s) (h : SqL X.K H a xs) (h' : SqL X.K H a ys) : xs = ys := by
  obtain ⟨its, r, ⟨o, n, e, _, _, d⟩, _⟩ := I.list h
  obtain ⟨its', r', ⟨o', n', e', _, _, d'⟩, _⟩ := I.list h'
  rw [e] at e'; cases e'
  rw [d] at d'
  injection d' with d1 _
  have : its = its' := by simpa using congrArg Array.toList d1
  subst this
  exact r.inj r'
theorem Inv.tuple_inj (I : Inv X pins σ H s) (h : SqT X.K H a xs) (h' : SqT X.K H a ys) : xs = ys := by
  obtain ⟨its, r, ⟨o, e, _, n, d⟩, _⟩ := I.tuple h
  obtain ⟨its', r', ⟨o', e', _, n', d'⟩, _⟩ := I.tuple h'
  rw [e] at e'; cases e'
  rw [d] at d'
  injection d' with d1 _
  have : its = its' := by simpa using congrArg Array.toList d1
  subst this
  exact r.inj r'
end

/-! ### another wish about exceptions -/
abbrev Cx.wish (X : Cx) (E : Value → Shared → Prop) : Cx := { X with xe := E }
/-- no exception leaves -/
abbrev Cx.nox (X : Cx) : Cx := X.wish fun _ _ => False
theorem Cx.Ok.wish {X : Cx} (ok : X.Ok) (E : Value → Shared → Prop) : (X.wish E).Ok :=
  ⟨ok.mod, ok.kind, ok.glob, ok.blt, ok.above, ok.inj, ok.has, ok.cab, ok.hd, ok.frames, ok.stk, ok.exf, ok.bs, ok.bsz, ok.noex, ok.exfs, ok.funs, ok.frf⟩
theorem Cx.Ok.unwish {X : Cx} {E : Value → Shared → Prop} (ok : (X.wish E).Ok) : X.Ok :=
  ⟨ok.mod, ok.kind, ok.glob, ok.blt, ok.above, ok.inj, ok.has, ok.cab, ok.hd, ok.frames, ok.stk, ok.exf, ok.bs, ok.bsz, ok.noex, ok.exfs, ok.funs, ok.frf⟩
section
variable {X : Cx} {pins : List (Addr × Obj)} {σ : St} {H : Hp} {s : Shared} {E : Value → Shared → Prop}
theorem Inv.wish (I : Inv X pins σ H s) (E : Value → Shared → Prop) : Inv (X.wish E) pins σ H s := ⟨I.ok.wish E, I.os, I.bare, I.base, I.loc, I.cell, I.free, I.freeC, I.pin, I.hok, I.len⟩
theorem Inv.unwish (I : Inv (X.wish E) pins σ H s) : Inv X pins σ H s := ⟨I.ok.unwish, I.os, I.bare, I.base, I.loc, I.cell, I.free, I.freeC, I.pin, I.hok, I.len⟩
theorem SP.unwish {D : Ends} {f : Flow} {s' : Shared} (h : SP (X.wish E) pins D f s') : SP X pins D f s' := by
  cases f with
  | next => obtain ⟨σ', H', I, q⟩ := h; exact ⟨σ', H', I.unwish, q⟩
  | brk => obtain ⟨σ', H', I, q⟩ := h; exact ⟨σ', H', I.unwish, q⟩
  | cont => obtain ⟨σ', H', I, q⟩ := h; exact ⟨σ', H', I.unwish, q⟩
  | ret u => obtain ⟨v, σ', H', I, r, q⟩ := h; exact ⟨v, σ', H', I.unwish, r, q⟩
theorem PSs.nox {st : List Stmt} {t : TS} (h : PSs X.nox st t) : PSs X st t := fun pins s σ H D I hw =>
  wpAny_mono (h pins s σ H D (I.wish _) hw) (fun _ _ q => q.unwish) fun _ _ z => False.elim z
end

/-! ### blocks and small statements -/
section
variable {X : Cx} {st : Stmt} {rest : List Stmt} {t u : TS} {e : Expr} {te : TE} {pos : Pos}
def tNext : TS := fun D σ H => D.nx σ H
def tSeq (t u : TS) : TS := fun D σ H => t { D with nx := u D } σ H
theorem pss_nil : PSs X [] tNext := fun _ _ σ H _ I h => wpAny_execs_nil ⟨σ, H, I, h⟩
theorem pss_cons (h1 : PS X st t) (h2 : PSs X rest u) : PSs X (st :: rest) (tSeq t u) := by
  intro pins s σ H D I h
  refine wpAny_execs_cons (thn (h1 pins s σ H { D with nx := u D } I h) fun f s1 q => ?_)
  cases f with
  | next =>
    obtain ⟨σ', H', I', q⟩ := q
    exact h2 pins s1 σ' H' D I' q
  | ret v => exact q
  | brk => exact q
  | cont => exact q
theorem pss_one (h1 : PS X st t) : PSs X [st] t := by
  intro pins s σ H D I h
  refine wpAny_execs_cons (thn (h1 pins s σ H D I h) fun f s1 q => ?_)
  cases f with
  | next => exact wpAny_execs_nil q
  | ret v => exact q
  | brk => exact q
  | cont => exact q
/-- in a def's body nothing is shown -/
theorem Inv.quiet {pins : List (Addr × Obj)} {σ : St} {H : Hp} {s : Shared} (I : Inv X pins σ H s) : interactive X.env = false := by simp [interactive, I.ok.kind]
/-- an expression whose value is dropped -/
def tDrop (te : TE) : TS := fun D σ H => te σ H fun _ H1 => D.nx σ H1
theorem ps_expr (he : PE X e te) (hs : swapsWith e none pos.line X.env = pure false := by rfl) : PS X (.Expr e pos) (tDrop te) := by
  intro pins s σ H D I h
  exact wpAny_Expr_any (thn (he pins s σ H _ I h) fun v s1 ⟨x, H1, I1, r1, q1⟩ => ⟨σ, H1, I1, q1⟩) I.quiet hs
def tRet (te : TE) : TS := fun D σ H => te σ H D.rt
theorem ps_ret (he : PE X e te) : PS X (.Return (some e) pos) (tRet te) := by
  intro pins s σ H D I h
  exact wpAny_Return_some (thn (he pins s σ H _ I h) fun v s1 ⟨x, H1, I1, r1, q1⟩ => ⟨x, σ, H1, I1, r1, q1⟩)
def tIfS (c : TT) (t u : TS) : TS := fun D σ H => c σ H fun b H1 => if b = true then t D σ H1 else u D σ H1
theorem ps_if {c : Expr} {a b : List Stmt} {tc : TT} (hc : PT X c tc) (ha : PSs X a t) (hb : PSs X b u) : PS X (.If c a b pos) (tIfS tc t u) := by
  intro pins s σ H D I h
  refine wpAny_If (thn (hc pins s σ H _ I h) fun d s1 ⟨H1, I1, q1⟩ => ?_)
  cases d with
  | true => exact ha pins s1 σ H1 D I1 q1
  | false => exact hb pins s1 σ H1 D I1 q1
/-- code that the proof never comes to -/
def tNever : TS := fun _ _ _ => False
theorem ps_never : PS X st tNever := fun _ _ _ _ _ _ h => h.elim
end

/-! ### targets -/
abbrev TG := V → St → Hp → (St → Hp → Prop) → Prop
abbrev TGs := List V → St → Hp → (St → Hp → Prop) → Prop
def PG (X : Cx) (target : Expr) (t : TG) : Prop :=
  ∀ (pins : List (Addr × Obj)) (s : Shared) (σ : St) (H : Hp) (v : V) (u : Value) (Q : St → Hp → Prop), Inv X pins σ H s → RelV v u → t v σ H Q →
    wpAny (model X.prog X.w) X.A (assign target X.env u) (fun _ s' => ∃ σ' H', Inv X pins σ' H' s' ∧ Q σ' H') X.xe s
/-- several targets, one after another -/
def PGs (X : Cx) (ts : List Expr) (t : TGs) : Prop :=
  ∀ (pins : List (Addr × Obj)) (s : Shared) (σ : St) (H : Hp) (vs : List V) (us : List Value) (Q : St → Hp → Prop), Inv X pins σ H s → Vals vs us → t vs σ H Q →
    wpAny (model X.prog X.w) X.A (assignInOrder ((assignEach ts X.env).map (·.2)) us) (fun _ s' => ∃ σ' H', Inv X pins σ' H' s' ∧ Q σ' H') X.xe s
/-- o[i] = v, by values -/
abbrev TSet := V → V → V → Hp → (Hp → Prop) → Prop
def PSet (X : Cx) (t : TSet) : Prop :=
  ∀ (pins : List (Addr × Obj)) (s : Shared) (σ : St) (H : Hp) (o i v : V) (ov iv u : Value) (Q : Hp → Prop), Inv X pins σ H s → RelV o ov → RelV i iv → RelV v u → t o i v H Q →
    wpAny (model X.prog X.w) X.A (setItem ov iv u) (fun _ s' => ∃ H', Inv X pins σ H' s' ∧ Q H') X.xe s
/-- a op= b, by values -/
abbrev TIp := V → V → Hp → VK → Prop
def PIp (X : Cx) (op : Operator) (t : TIp) : Prop :=
  ∀ (pins : List (Addr × Obj)) (s : Shared) (σ : St) (H : Hp) (x y : V) (v u : Value) (Q : VK), Inv X pins σ H s → RelV x v → RelV y u → t x y H Q →
    wpAny (model X.prog X.w) X.A (inplaceOp op v u) (EP X pins σ Q) X.xe s
section
variable {X : Cx} {pos : Pos}
def gName (i : Nat) : TG := fun v σ H Q => Q (σ.set i (some v)) H
theorem pg_name {i : Nat} {x : Str} (hN : X.N.Nodup) (hi : X.N[i]? = some x) (hx : Loc X.env.scope x) (hf : X.fn x = true ∨ X.env.scope.names.lookup x = some .local := by first | exact .inl rfl | exact .inr rfl | assumption) : PG X (.Name x pos) (gName i) := by
  intro pins s σ H v u Q I r h
  exact wpAny_assign_Name (store_ok I hN hi hx r (fun s' I' => ⟨_, H, I', h⟩) hf)
def gNil : TGs := fun vs σ H Q => vs = [] ∧ Q σ H
def gCons (t : TG) (u : TGs) : TGs := fun vs σ H Q => ∃ v r, vs = v :: r ∧ t v σ H fun σ' H' => u r σ' H' Q
theorem pgs_nil : PGs X [] gNil := by
  intro pins s σ H vs us Q I r h
  obtain ⟨e, h⟩ := h
  subst e
  cases r
  exact assignInOrder_nil ⟨σ, H, I, h⟩
theorem pgs_cons {e : Expr} {es : List Expr} {t : TG} {u : TGs} (h1 : PG X e t) (h2 : PGs X es u)
    (hs : (assignEach (e :: es) X.env).map (·.2) = assign e X.env :: (assignEach es X.env).map (·.2) := by rfl) : PGs X (e :: es) (gCons t u) := by
  intro pins s σ H vs us Q I r h
  obtain ⟨v, vr, e1, h⟩ := h
  subst e1
  cases r with
  | cons r rr =>
    rw [hs]
    refine assignInOrder_cons (thn (h1 pins s σ H _ _ _ I r h) fun _ s1 ⟨σ1, H1, I1, q1⟩ => ?_)
    exact h2 pins s1 σ1 H1 _ _ Q I1 rr q1
/-- (a, b, ..) = a tuple of that length -/
def gTup (K : PySem.W.Frag) (n : Nat) (t : TGs) : TG := fun v σ H Q => ∃ a xs, v = .ref a ∧ SqT K H a xs ∧ xs.length = n ∧ t xs σ H Q
theorem pg_tup {es : List Expr} {k : Nat} {t : TGs} {n : Nat} (hc : X.calm = true) (h : PGs X es t)
    (hn : (assignEach es X.env).length = n := by rfl) (hst : (assignEach es X.env).findIdx? (·.1) = none := by rfl) : PG X (.Tuple es k pos) (gTup X.K n t) := by
  intro pins s σ H v u Q I r hw
  obtain ⟨a, xs, e1, hq, hl, hw⟩ := hw
  subst e1
  cases r
  obtain ⟨its, rv, ht, hz⟩ := I.tuple hq
  refine assign_Tuple_tuple (I.ok.hd hc) ht (by simp [hn, ← hl, rv.length]) hst fun h' hx => ?_
  have I1 : Inv X pins σ H { s with heap := h' } := I.kept (t' := s.toks) fun b o e => hx b o (Nat.ne_of_lt (Heap.lt_size e)) e
  exact h pins _ σ H xs _ Q I1 (by simpa using rv) hw
/-- o[i] = .. -/
def gSub (to ti : TE) (t : TSet) : TG := fun v σ H Q => to σ H fun o H1 => ti σ H1 fun i H2 => t o i v H2 fun H3 => Q σ H3
theorem pg_sub {o i : Expr} {to ti : TE} {t : TSet} (ho : PE X o to) (hi : PE X i ti) (hs : PSet X t)
    (ha : ∀ v, assign (.Subscript o i pos) X.env v = (do
      let ov ← holding [v] (eval o X.env)
      let iv ← holding [v, ov] (eval i X.env)
      standAt pos
      holding [v, ov, iv] (setItem ov iv v)
      release [v, ov, iv] []) := by intro _; rfl) : PG X (.Subscript o i pos) (gSub to ti t) := by
  intro pins s σ H v u Q I r h
  rw [ha]
  refine wpAny_bind (wpAny_holding (thn (ho pins s σ H _ I h) fun ov s1 ⟨x, H1, I1, r1, q1⟩ => ?_))
  refine wpAny_bind (wpAny_holding (thn (hi pins s1 σ H1 _ I1 q1) fun iv s2 ⟨y, H2, I2, r2, q2⟩ => ?_))
  refine wpAny_bind (wpAny_standAt (wpAny_bind (wpAny_holding (thn (hs pins s2 σ H2 x y v ov iv u _ I2 r1 r2 r q2) fun _ s3 ⟨H3, I3, q3⟩ => ?_))))
  exact wpAny_release ⟨σ, H3, I3, q3⟩
/-- target = value -/
def tAsg (te : TE) (g : TG) : TS := fun D σ H => te σ H fun x H1 => g x σ H1 D.nx
theorem ps_asg {tg e : Expr} {te : TE} {g : TG} (he : PE X e te) (hg : PG X tg g) (hs : swapsWithSole [tg] e pos.line X.env = pure false := by rfl) (hw : swappedStores [tg] e X.env = pure none := by rfl)
    (h1 : (assignEach [tg] X.env).map (·.2) = [assign tg X.env] := by rfl) : PS X (.Assign [tg] e pos) (tAsg te g) := by
  intro pins s σ H D I h
  refine wpAny_Assign_stores (thn (he pins s σ H _ I h) fun v s1 ⟨x, H1, I1, r1, q1⟩ => ?_) hs hw
  rw [h1]
  exact thn (hg pins s1 σ H1 x v _ I1 r1 q1) fun _ s2 q => q
/-- name = value -/
theorem ps_set {i : Nat} {x : Str} {e : Expr} {te : TE} {pos' : Pos} (hN : X.N.Nodup) (hi : X.N[i]? = some x) (hx : Loc X.env.scope x) (he : PE X e te) (hs : swapsWith e (some (.Name x pos')) pos.line X.env = pure false := by rfl) (hf : X.fn x = true ∨ X.env.scope.names.lookup x = some .local := by first | exact .inl rfl | exact .inr rfl | assumption) :
    PS X (.Assign [.Name x pos'] e pos) (tAsg te (gName i)) := by
  intro pins s σ H D I h
  refine wpAny_Assign_Name (thn (he pins s σ H _ I h) fun v s1 ⟨y, H1, I1, r1, q1⟩ => ?_) hs
  exact store_ok I1 hN hi hx r1 (fun s2 I2 => ⟨_, H1, I2, q1⟩) hf
/-- name op= e -/
def tAug (i : Nat) (te : TE) (ti : TIp) : TS := fun D σ H => ∃ x, σ[i]? = some (some x) ∧ te σ H fun y H1 => ti x y H1 fun z H2 => D.nx (σ.set i (some z)) H2
theorem ps_aug {i : Nat} {x : Str} {e : Expr} {te : TE} {op : Operator} {ti : TIp} {pos' : Pos} (hN : X.N.Nodup) (hi : X.N[i]? = some x) (hx : Loc X.env.scope x) (he : PE X e te) (ho : PIp X op ti) (hf : X.fn x = true ∨ X.env.scope.names.lookup x = some .local := by first | exact .inl rfl | exact .inr rfl | assumption) :
    PS X (.AugAssign (.Name x pos') op e pos) (tAug i te ti) := by
  intro pins s σ H D I h
  obtain ⟨v, e1, h⟩ := h
  obtain ⟨m, hn, hl⟩ := I.loc
  have vis : Vis X.env.scope x := by rcases hx with k | k; exact .inl k; exact .inr (.inl k)
  obtain ⟨u, r, l⟩ := hl i x v hi e1 vis
  refine wpAny_AugAssign_Name ?_
  have go : wpAny (model X.prog X.w) X.A (eval e X.env) (fun w s₂ => wpAny (model X.prog X.w) X.A (inplaceOp op u w) (fun r s₃ => wpAny (model X.prog X.w) X.A (storeName X.env x r) (fun _ => SP X pins D .next) X.xe s₃) X.xe s₂) X.xe s := by
    refine thn (he pins s σ H _ I h) fun w s1 ⟨y, H1, I1, r1, q1⟩ => ?_
    refine thn (ho pins s1 σ H1 v y u w _ I1 r r1 q1) fun z s2 ⟨zv, H2, I2, r2, q2⟩ => ?_
    exact store_ok I2 hN hi hx r2 (fun s3 I3 => ⟨_, H2, I3, q2⟩) hf
  rcases l with ⟨hk, hm⟩ | ⟨hk, c, hc, hcell⟩
  · exact wpAny_loadName_local I.ok.kind hk hn hm go
  · rcases hk with hk | hk
    · exact wpAny_loadName_cell I.ok.kind hk hc hcell go
    · rcases hx with k | k
      · have : X.env.scope.names.lookup x = some .free := hk
        rw [k] at this; cases this
      · have : X.env.scope.names.lookup x = some .free := hk
        rw [k] at this; cases this
/-- o[i] op= e -/
def tAugS (to ti te : TE) (tget : V → V → Hp → VK → Prop) (tip : TIp) (tset : TSet) : TS := fun D σ H => to σ H fun o H1 => ti σ H1 fun i H2 => tget o i H2 fun x H3 => te σ H3 fun y H4 => tip x y H4 fun z H5 => tset o i z H5 fun H6 => D.nx σ H6
/-- o[i], by values -/
def PGet (X : Cx) (t : V → V → Hp → VK → Prop) : Prop :=
  ∀ (pins : List (Addr × Obj)) (s : Shared) (σ : St) (H : Hp) (o i : V) (ov iv : Value) (Q : VK), Inv X pins σ H s → RelV o ov → RelV i iv → t o i H Q →
    wpAny (model X.prog X.w) X.A (getItem ov iv) (EP X pins σ Q) X.xe s
theorem ps_augS {o i e : Expr} {to ti te : TE} {tget : V → V → Hp → VK → Prop} {tip : TIp} {tset : TSet} {op : Operator} {tpos : Pos} (ho : PE X o to) (hi : PE X i ti) (hg : PGet X tget) (he : PE X e te) (hp : PIp X op tip) (hs : PSet X tset)
    (ha : ∀ ov iv new, augStore i ov iv new = (do holding [new, ov, iv] (setItem ov iv new); release [new, ov, iv] []; pure .next) := by intros; rfl) : PS X (.AugAssign (.Subscript o i tpos) op e pos) (tAugS to ti te tget tip tset) := by
  intro pins s σ H D I h
  refine wpAny_AugAssign_SubscriptAny (thn (ho pins s σ H _ I h) fun ov s1 ⟨x1, H1, I1, r1, q1⟩ => ?_) ha
  refine thn (hi pins s1 σ H1 _ I1 q1) fun iv s2 ⟨x2, H2, I2, r2, q2⟩ => ?_
  refine thn (hg pins s2 σ H2 x1 x2 ov iv _ I2 r1 r2 q2) fun old s3 ⟨x3, H3, I3, r3, q3⟩ => ?_
  refine thn (he pins s3 σ H3 _ I3 q3) fun v s4 ⟨x4, H4, I4, r4, q4⟩ => ?_
  refine thn (hp pins s4 σ H4 x3 x4 old v _ I4 r3 r4 q4) fun new s5 ⟨x5, H5, I5, r5, q5⟩ => ?_
  exact thn (hs pins s5 σ H5 x1 x2 x5 ov iv new _ I5 r1 r2 r5 q5) fun _ s6 ⟨H6, I6, q6⟩ => ⟨σ, H6, I6, q6⟩
/-- ints -/
def ipI (f : Int → Int → Int) : TIp := fun x y H Q => ∃ i j, x = .int i ∧ y = .int j ∧ Q (.int (f i j)) H
theorem ip_add : PIp X .Add (ipI fun i j => i + j) := by
  intro pins s σ H x y v u Q I r1 r2 h
  obtain ⟨i, j, e1, e2, q⟩ := h
  subst e1; subst e2
  obtain ⟨t, rfl⟩ := r1
  obtain ⟨t', rfl⟩ := r2
  exact iadd_int ⟨.int _, H, I.tok _, ⟨_, rfl⟩, q⟩
theorem ip_sub : PIp X .Sub (ipI fun i j => i - j) := by
  intro pins s σ H x y v u Q I r1 r2 h
  obtain ⟨i, j, e1, e2, q⟩ := h
  subst e1; subst e2
  obtain ⟨t, rfl⟩ := r1
  obtain ⟨t', rfl⟩ := r2
  exact isub_int ⟨.int _, H, I.tok _, ⟨_, rfl⟩, q⟩
end

/-! ### while -/
section
variable {X : Cx} {pos : Pos}
/-- the invariant W with its measure -/
def tWhile (c : TT) (tb : TS) : TS := fun D σ H => ∃ W : Nat → St → Hp → Prop, (∃ m, W m σ H) ∧ ∀ m σ H, W m σ H →
  c σ H fun b H1 => if b = true then ∃ N : St → Hp → Prop, (∀ σ' H', N σ' H' → ∃ m', m' < m ∧ W m' σ' H') ∧ tb { D with nx := N, ct := N, bk := D.nx } σ H1 else D.nx σ H1
theorem ps_while {c : Expr} {body : List Stmt} {tc : TT} {tb : TS} (hp : PassesOwn (model X.prog X.w) X.A X.env X.xe) (hc : PT X c tc) (hb : PSs X body tb) : PS X (.While c body [] pos) (tWhile tc tb) := by
  intro pins s σ H D I h
  obtain ⟨W, ⟨m0, w0⟩, turn⟩ := h
  refine wpAny_While (codeAny_whileLoop (fun n s' => ∃ σ' H', Inv X pins σ' H' s' ∧ W n σ' H') ?_ m0 ⟨σ, H, I, w0⟩)
  rintro n s1 ⟨σ1, H1, I1, w1⟩
  refine wpAny_passesOwn hp (thn (hc pins s1 σ1 H1 _ I1 (turn n σ1 H1 w1)) fun b s2 ⟨H2, I2, q2⟩ => ?_)
  cases b with
  | true =>
    obtain ⟨N, hN, q2⟩ := q2
    rw [if_pos rfl]
    refine wpAny_passesOwn hp (thn (hb pins s2 σ1 H2 _ I2 q2) fun f s3 q3 => ?_)
    cases f with
    | next =>
      obtain ⟨σ3, H3, I3, n3⟩ := q3
      obtain ⟨m', hm, w3⟩ := hN σ3 H3 n3
      exact ⟨m', hm, σ3, H3, I3, w3⟩
    | cont =>
      obtain ⟨σ3, H3, I3, n3⟩ := q3
      obtain ⟨m', hm, w3⟩ := hN σ3 H3 n3
      exact ⟨m', hm, σ3, H3, I3, w3⟩
    | brk => exact q3
    | ret v => exact q3
  | false =>
    rw [if_neg Bool.false_ne_true]
    exact wpAny_execs_nil ⟨σ1, H2, I2, q2⟩
end

/-! ### what a loop or a comprehension walks -/
/-- at turn i: it yields x (the heap may grow), or it stops -/
structure It where
  go : Nat → Hp → Prop
  yld : Nat → Hp → V → Hp → Prop
  stop : Nat → Hp → Prop
/-- the iterator's own objects may turn: they are not the frame's, not pinned, younger than the entry (or a comprehension's own) -/
def FpOk (X : Cx) (pins : List (Addr × Obj)) (H : Hp) (b : Addr) : Prop :=
  H b = none ∧ b ≠ X.env.locals ∧ b ∉ X.fs ∧ (b ∈ X.ex ∨ X.s₀.heap.objs.size ≤ b) ∧ (∀ x c, X.env.cells.lookup x = some c → c ≠ b) ∧ ∀ p ∈ X.pn ++ pins, p.1 ≠ b
theorem Inv.fpOk {X : Cx} {pins : List (Addr × Obj)} {σ : St} {H H' : Hp} {s : Shared} {b : Addr} (I : Inv X pins σ H s) (hb : s.heap.objs.size ≤ b) (hn : H' b = none) : FpOk X pins H' b := by
  refine ⟨hn, Nat.ne_of_gt (Nat.lt_of_lt_of_le I.lt hb), I.nofs hb, .inr (Nat.le_trans I.sz hb), fun x c e z => ?_, fun p hp z => ?_⟩
  · obtain ⟨v, q⟩ := I.cell x c e
    exact absurd (Nat.lt_of_lt_of_le q.lt (by rw [z]; exact hb)) (Nat.lt_irrefl _)
  · exact absurd (Nat.lt_of_lt_of_le (Heap.lt_size (I.pin p hp).1) (by rw [z]; exact hb)) (Nat.lt_irrefl _)
structure Turn (P : Program) (w : World) (K : PySem.W.Frag) (tg : Expr) (J : It) (fp : List Addr) (it : Addr) (tn : Nat → Heap → Prop) : Prop where
  mem : it ∈ fp
  obj : ∀ i h, tn i h → ∀ b ∈ fp, ∃ o, h.get? b = some o ∧ ∀ v, o.data ≠ .cell v
  keep : ∀ i h h', tn i h → (∀ b ∈ fp, ∀ o, h.get? b = some o → h'.get? b = some o) → tn i h'
  item : ∀ (X : Cx), X.prog = P → X.w = w → X.K = K → X.calm = true → ∀ (i : Nat) (pins : List (Addr × Obj)) (s : Shared) (σ : St) (H : Hp) (E : Value → Shared → Prop), Inv X pins σ H s → (∀ b ∈ fp, FpOk X pins H b) → tn i s.heap → J.go i H →
    wpAny (model P w) X.A (pyNext (.ref it)) (fun r s1 => ∃ u, r = some u ∧
      wpAny (model P w) X.A (letOwnedTupleGo tg (.ref it) u) (fun _ s2 => ∃ x H', Inv X pins σ H' s2 ∧ RelV x u ∧ J.yld i H x H' ∧ tn (i + 1) s2.heap ∧ ∀ b ∈ fp, H' b = none) E s1) E s
  done : ∀ (X : Cx), X.prog = P → X.w = w → X.K = K → X.calm = true → ∀ (i : Nat) (pins : List (Addr × Obj)) (s : Shared) (σ : St) (H : Hp) (E : Value → Shared → Prop), Inv X pins σ H s → (∀ b ∈ fp, FpOk X pins H b) → tn i s.heap → J.stop i H →
    wpAny (model P w) X.A (pyNext (.ref it)) (fun r s1 => r = none ∧ Inv X pins σ H s1) E s
  self : ∀ (A : Around) (i : Nat) (s : Shared) (Q : Value → Shared → Prop) (E : Value → Shared → Prop), tn i s.heap → Q (.ref it) s → wpAny (model P w) A (pyIter (.ref it)) Q E s
abbrev TI := St → Hp → (It → Hp → Prop) → Prop
/-- an iterator has come -/
def PIE (X : Cx) (pins : List (Addr × Obj)) (σ : St) (tg : Expr) (R : It → Hp → Prop) (itv : Value) (s2 : Shared) : Prop :=
  ∃ (it : Addr) (fp : List Addr) (tn : Nat → Heap → Prop) (J : It) (H' : Hp), itv = .ref it ∧ Inv X pins σ H' s2 ∧ Turn X.prog X.w X.K tg J fp it tn ∧ tn 0 s2.heap ∧ (∀ b ∈ fp, FpOk X pins H' b) ∧ R J H'
def PI (X : Cx) (tg iter : Expr) (wi : TI) : Prop :=
  ∀ (pins : List (Addr × Obj)) (s : Shared) (σ : St) (H : Hp) (R : It → Hp → Prop), Inv X pins σ H s → wi σ H R →
    wpAny (model X.prog X.w) X.A (eval iter X.env) (fun v s1 => wpAny (model X.prog X.w) X.A (pyIter v) (PIE X pins σ tg R) X.xe s1) X.xe s

/-- the step ahead of the store is nothing for an iterator that keeps no tuple -/
theorem go_of {M : Model} {A : Around} {E : Value → Shared → Prop} {s : Shared} {tg : Expr} {it : Addr} {u : Value} {o : Obj} {n : String} {vs : Array Value} {Q : Unit → Shared → Prop} (ho : s.heap.get? it = some o) (hc : o.cls = .type n) (hd : o.data = .fields vs)
    (hn : ["enumerate", "zip", "dict_itemiterator", "dict_reverseitemiterator", "odict_iterator", "itertools.zip_longest", "itertools.pairwise"].contains n = false) (hQ : Q () s) : wpAny M A (letOwnedTupleGo tg (.ref it) u) Q E s := by
  unfold letOwnedTupleGo
  cases tg <;> first
    | exact wpAny_pure hQ
    | (cases u <;> first
        | exact wpAny_pure hQ
        | (refine wpAny_bind (wpAny_load ho ?_)
           rw [hc, hd]
           show wpAny M A (if (["enumerate", "zip", "dict_itemiterator", "dict_reverseitemiterator", "odict_iterator", "itertools.zip_longest", "itertools.pairwise"].contains n && vs[0]? == some (rawInt _)) = true then _ else _) Q E s
           rw [if_neg (by intro h; rw [hn, Bool.false_and] at h; cases h)]
           exact wpAny_pure hQ))

/-- the list at a, as it stands at each turn (a loop may append to it) -/
def Itl (K : PySem.W.Frag) (a : Addr) : It :=
  ⟨fun i H => ∃ xs x, SqL K H a xs ∧ xs[i]? = some x, fun i H x H' => H' = H ∧ ∀ xs, SqL K H a xs → xs[i]? = some x, fun i H => ∃ xs, SqL K H a xs ∧ xs.length ≤ i⟩
def Itt (K : PySem.W.Frag) (a : Addr) : It :=
  ⟨fun i H => ∃ xs x, SqT K H a xs ∧ xs[i]? = some x, fun i H x H' => H' = H ∧ ∀ xs, SqT K H a xs → xs[i]? = some x, fun i H => ∃ xs, SqT K H a xs ∧ xs.length ≤ i⟩
/-- lo, lo + 1, .. (n of them) -/
def Itr (lo : Int) (n : Nat) : It := ⟨fun i _ => i < n, fun i H x H' => H' = H ∧ x = .int (lo + i), fun i _ => n ≤ i⟩
theorem turn_list {P : Program} {w : World} {K : PySem.W.Frag} {tg : Expr} (a it : Addr) : Turn P w K tg (Itl K a) [it] it (fun i h => h.IsListIter it a i) where
  mem := by simp
  obj := fun i h st b hb => by
    have e : b = it := by simpa using hb
    subst e
    obtain ⟨o, e, c, d⟩ := st
    exact ⟨o, e, fun v z => by rw [d] at z; cases z⟩
  keep := fun i h h' st k => st.at fun o e => k it (by simp) o e
  item := by
    intro X hP hw hK hc i pins s σ H E I hf st hg
    subst hP hw hK
    obtain ⟨xs, x, hq, hx⟩ := hg
    obtain ⟨its, rv, p, hz⟩ := I.list hq
    obtain ⟨u, hu, ru⟩ := rv.get hx
    obtain ⟨f0, f1, f2, f3, f4, f5⟩ := hf it (by simp)
    refine wpAny_pyNext_list_item st p.isList (x := u) (by simpa using hu) fun h' st' sb => ?_
    have I1 : Inv X pins σ H { s with heap := h' } := I.turned (t' := s.toks) (fun b o hb e => (sb.2 b hb).trans e) f0 f1 f3 f4 f5
    obtain ⟨o, e, c, d⟩ := id st'
    exact ⟨u, rfl, go_of (s := { s with heap := h' }) e c d (by decide) ⟨x, H, I1, ru, ⟨rfl, fun ys hy => by rw [I.list_inj hy hq]; exact hx⟩, st', fun b hb => (hf b hb).1⟩⟩
  done := by
    intro X hP hw hK hc i pins s σ H E I hf st hg
    subst hP hw hK
    obtain ⟨xs, hq, hx⟩ := hg
    obtain ⟨its, rv, p, hz⟩ := I.list hq
    obtain ⟨f0, f1, f2, f3, f4, f5⟩ := hf it (by simp)
    have hl := rv.length
    exact wpAny_pyNext_list_end (I.ok.hd hc) st p.isList (by simp; omega) fun h' eb => ⟨rfl, I.turned (t' := s.toks) (fun b o hb e => eb b o hb e) f0 f1 f3 f4 f5⟩
  self := fun _ _ _ _ _ st h => wpAny_pyIter_listiter st h
theorem turn_tuple {P : Program} {w : World} {K : PySem.W.Frag} {tg : Expr} (a it : Addr) : Turn P w K tg (Itt K a) [it] it (fun i h => h.IsTupleIter it a i) where
  mem := by simp
  obj := fun i h st b hb => by
    have e : b = it := by simpa using hb
    subst e
    obtain ⟨o, e, c, d⟩ := st
    exact ⟨o, e, fun v z => by rw [d] at z; cases z⟩
  keep := fun i h h' st k => st.at fun o e => k it (by simp) o e
  item := by
    intro X hP hw hK hc i pins s σ H E I hf st hg
    subst hP hw hK
    obtain ⟨xs, x, hq, hx⟩ := hg
    obtain ⟨its, rv, p, hz⟩ := I.tuple hq
    obtain ⟨u, hu, ru⟩ := rv.get hx
    obtain ⟨f0, f1, f2, f3, f4, f5⟩ := hf it (by simp)
    refine wpAny_pyNext_tuple_item st (show s.heap.IsTuple a its.toArray from p) (x := u) (by simpa using hu) fun h' st' sb => ?_
    have I1 : Inv X pins σ H { s with heap := h' } := I.turned (t' := s.toks) (fun b o hb e => (sb.2 b hb).trans e) f0 f1 f3 f4 f5
    obtain ⟨o, e, c, d⟩ := id st'
    exact ⟨u, rfl, go_of (s := { s with heap := h' }) e c d (by decide) ⟨x, H, I1, ru, ⟨rfl, fun ys hy => by rw [I.tuple_inj hy hq]; exact hx⟩, st', fun b hb => (hf b hb).1⟩⟩
  done := by
    intro X hP hw hK hc i pins s σ H E I hf st hg
    subst hP hw hK
    obtain ⟨xs, hq, hx⟩ := hg
    obtain ⟨its, rv, p, hz⟩ := I.tuple hq
    obtain ⟨f0, f1, f2, f3, f4, f5⟩ := hf it (by simp)
    have hl := rv.length
    exact wpAny_pyNext_tuple_end (I.ok.hd hc) st (show s.heap.IsTuple a its.toArray from p) (by simp; omega) fun h' eb => ⟨rfl, I.turned (t' := s.toks) (fun b o hb e => eb b o hb e) f0 f1 f3 f4 f5⟩
  self := fun _ _ _ _ _ st h => wpAny_pyIter_tupleiter st h
theorem turn_range {P : Program} {w : World} {K : PySem.W.Frag} {tg : Expr} (it : Addr) (lo : Int) (n : Nat) : Turn P w K tg (Itr lo n) [it] it (fun i h => IsRangeIter h it (lo + (i : Nat) * 1) ((n : Int) - (i : Nat)) 1) where
  mem := by simp
  obj := fun i h st b hb => by
    have e : b = it := by simpa using hb
    subst e
    exact ⟨_, st, fun v z => by
      have z' : Data.fields _ = Data.cell v := z
      cases z'⟩
  keep := fun i h h' st k => k it (by simp) _ st
  item := by
    intro X hP hw hK hc i pins s σ H E I hf st hg
    subst hP hw hK
    obtain ⟨f0, f1, f2, f3, f4, f5⟩ := hf it (by simp)
    have W := Walks.range (prog := X.prog) (w := X.w) (I.ok.hd hc) it lo 1 n
    refine W.item i s _ _ hg st fun v h' tk hv st' kk => ?_
    obtain ⟨t, rfl⟩ := hv
    have I1 : Inv X pins σ H { s with heap := h', toks := tk } := I.turned (fun b o hb e => kk b o (by simpa using hb) e) f0 f1 f3 f4 f5
    refine ⟨_, rfl, go_of (s := { s with heap := h', toks := tk }) (n := "range_iterator") st' rfl rfl (by decide) ⟨.int (lo + i), H, I1, ⟨t, ?_⟩, ⟨rfl, rfl⟩, st', fun b hb => (hf b hb).1⟩⟩
    rw [Int.mul_one]
  done := by
    intro X hP hw hK hc i pins s σ H E I hf st hg
    subst hP hw hK
    obtain ⟨f0, f1, f2, f3, f4, f5⟩ := hf it (by simp)
    exact wpAny_pyNext_range_end (I.ok.hd hc) st (by have : n ≤ i := hg; omega) fun h' eb => ⟨rfl, I.turned (t' := s.toks) (fun b o hb e => eb b o hb e) f0 f1 f3 f4 f5⟩
  self := fun _ _ _ _ _ st h => wpAny_pyIter_rangeiter st h
end L2

namespace L2
open PySem PySem.Spec PyProof.Rows
section
variable {X : Cx} {tg : Expr}
def iList (K : PySem.W.Frag) (tl : TE) : TI := fun σ H R => tl σ H fun x H1 => ∃ a, x = .ref a ∧ (∃ xs, SqL K H1 a xs) ∧ R (Itl K a) H1
def iTup (K : PySem.W.Frag) (tl : TE) : TI := fun σ H R => tl σ H fun x H1 => ∃ a, x = .ref a ∧ (∃ xs, SqT K H1 a xs) ∧ R (Itt K a) H1
theorem pi_list {l : Expr} {tl : TE} (hl : PE X l tl) : PI X tg l (iList X.K tl) := by
  intro pins s σ H R I h
  refine thn (hl pins s σ H _ I h) fun v s1 ⟨x, H1, I1, r1, q1⟩ => ?_
  obtain ⟨a, e, ⟨xs, hq⟩, q⟩ := q1
  subst e
  cases r1
  obtain ⟨its, rv, p, hz⟩ := I1.list hq
  refine wpAny_pyIter_list p.isList ?_
  refine ⟨s1.heap.objs.size, [s1.heap.objs.size], _, _, H1, rfl, I1.kept (t' := s1.toks) fun b o e => Heap.get?_push_of_some _ e, turn_list a _, ⟨_, Heap.get?_push_size _ rfl, rfl, rfl⟩, fun b hb => ?_, q⟩
  have e : b = s1.heap.objs.size := by simpa using hb
  subst e
  exact I1.fpOk (Nat.le_refl _) (I1.hok.fresh (Nat.le_refl _))
theorem pi_tup {l : Expr} {tl : TE} (hl : PE X l tl) : PI X tg l (iTup X.K tl) := by
  intro pins s σ H R I h
  refine thn (hl pins s σ H _ I h) fun v s1 ⟨x, H1, I1, r1, q1⟩ => ?_
  obtain ⟨a, e, ⟨xs, hq⟩, q⟩ := q1
  subst e
  cases r1
  obtain ⟨its, rv, p, hz⟩ := I1.tuple hq
  refine wpAny_pyIter_tuple (show s1.heap.IsTuple a its.toArray from p) ?_
  refine ⟨s1.heap.objs.size, [s1.heap.objs.size], _, _, H1, rfl, I1.kept (t' := s1.toks) fun b o e => Heap.get?_push_of_some _ e, turn_tuple a _, ⟨_, Heap.get?_push_size _ rfl, rfl, rfl⟩, fun b hb => ?_, q⟩
  have e : b = s1.heap.objs.size := by simpa using hb
  subst e
  exact I1.fpOk (Nat.le_refl _) (I1.hok.fresh (Nat.le_refl _))
/-- a range object just made, walked -/
theorem range_it {pins : List (Addr × Obj)} {σ : St} {H : Hp} {s : Shared} {R : It → Hp → Prop} {E : Value → Shared → Prop} {lo hi : Int} {t u v : Tok} {tk : Nat} (I : Inv X pins σ H s) (h1 : -(2 ^ 62) ≤ lo) (h2 : lo < 2 ^ 62) (h3 : -(2 ^ 62) ≤ hi) (h4 : hi < 2 ^ 62)
    (q : R (Itr lo (hi - lo).toNat) H) : wpAny (model X.prog X.w) X.A (pyIter (.ref s.heap.objs.size)) (PIE X pins σ tg R) E { s with heap := s.heap.push { cls := .type "range", data := .fields #[.int lo t, .int hi u, .int 1 v] }, toks := tk } := by
  refine wpAny_pyIter_range (IsRange.new ..) (small_one h1 h2 h3 h4) ?_
  have I1 : Inv X pins σ H { s with heap := s.heap.push { cls := .type "range", data := .fields #[.int lo t, .int hi u, .int 1 v] }, toks := tk } := I.kept fun b o e => Heap.get?_push_of_some _ e
  refine ⟨(s.heap.push { cls := .type "range", data := .fields #[.int lo t, .int hi u, .int 1 v] }).objs.size, [(s.heap.push { cls := .type "range", data := .fields #[.int lo t, .int hi u, .int 1 v] }).objs.size], _, _, H, rfl,
    I1.kept (t' := tk) fun b o e => Heap.get?_push_of_some _ e, turn_range _ lo (hi - lo).toNat, ?_, fun b hb => ?_, q⟩
  · have e1 : lo + ((0 : Nat) : Int) * 1 = lo := by simp
    have e2 : (((hi - lo).toNat : Nat) : Int) - ((0 : Nat) : Int) = Builtin.Range.rangeSize lo hi 1 := by rw [rangeSize_one]; split <;> omega
    show IsRangeIter _ _ (lo + ((0 : Nat) : Int) * 1) ((((hi - lo).toNat : Nat) : Int) - ((0 : Nat) : Int)) 1
    rw [e1, e2]
    exact Heap.get?_push_size _ rfl
  · have e : b = (s.heap.push { cls := .type "range", data := .fields #[.int lo t, .int hi u, .int 1 v] }).objs.size := by simpa using hb
    subst e
    exact I1.fpOk (Nat.le_refl _) (I1.hok.fresh (Nat.le_refl _))
def iRng1 (ta : TA) : TI := fun σ H R => ta σ H fun vs H1 => ∃ j : Int, vs = [.int j] ∧ -(2 ^ 62) ≤ j ∧ j < 2 ^ 62 ∧ R (Itr 0 j.toNat) H1
theorem pi_range1 {a : Expr} {ta : TA} {p pos : Pos} (hg : Gl X "range") (hm : X.mg "range" = none) (ha : PA X [a] ta) (hs : starEach [a] X.env = [(false, eval a X.env)] := by rfl) : PI X tg (.Call (.Name "range" p) [a] [] pos) (iRng1 ta) := by
  intro pins s σ H R I h
  refine Call_ (ld_blt I hg hm boot_range (PyProof.Rows.callWith_type1 (thn (ha pos pins s σ H _ I h) fun us s1 ⟨vs, H1, I1, r1, q1⟩ => ?_) hs rfl))
  obtain ⟨j, e, q1, q2, q⟩ := q1
  subst e
  cases r1 with
  | cons r rr =>
    cases rr
    obtain ⟨t, rfl⟩ := r
    exact call_range_1 (range_it I1 (by omega) (by omega) q1 q2 (by simpa using q))

/-! ### for -/
/-- W: the invariant by the turn and a measure; N: what the body is to reach -/
def tFor (wi : TI) (g : TG) (tb : TS) : TS := fun D σ H => wi σ H fun J H1 => ∃ W : Nat → Nat → St → Hp → Prop, (∃ m, W 0 m σ H1) ∧ ∀ i m σ H, W i m σ H →
  (J.stop i H ∧ D.nx σ H) ∨ (J.go i H ∧ ∃ N : St → Hp → Prop, (∀ σ' H', N σ' H' → ∃ m', m' < m ∧ W (i + 1) m' σ' H') ∧ ∀ x H', J.yld i H x H' → g x σ H' fun σ2 H2 => tb { D with nx := N, ct := N, bk := D.nx } σ2 H2)
/-- the records at fp as they stand -/
def pinsAt (fp : List Addr) (h : Heap) : List (Addr × Obj) := fp.filterMap fun b => (h.get? b).map fun o => (b, o)
theorem mem_pinsAt {fp : List Addr} {h : Heap} {b : Addr} {o : Obj} (hb : b ∈ fp) (e : h.get? b = some o) : (b, o) ∈ pinsAt fp h := List.mem_filterMap.mpr ⟨b, hb, by rw [e]; rfl⟩
theorem of_pinsAt {fp : List Addr} {h : Heap} {p : Addr × Obj} (hp : p ∈ pinsAt fp h) : p.1 ∈ fp ∧ h.get? p.1 = some p.2 := by
  obtain ⟨b, hb, e⟩ := List.mem_filterMap.mp hp
  cases q : h.get? b with
  | none => rw [q] at e; cases e
  | some o =>
    rw [q] at e
    have e' : (b, o) = p := Option.some.inj e
    subst e'
    exact ⟨hb, q⟩
theorem Inv.pinned {pins : List (Addr × Obj)} {σ : St} {H : Hp} {s : Shared} {fp : List Addr} (I : Inv X pins σ H s) (hf : ∀ b ∈ fp, FpOk X pins H b) (ho : ∀ b ∈ fp, ∃ o, s.heap.get? b = some o ∧ ∀ v, o.data ≠ .cell v) : Inv X (pins ++ pinsAt fp s.heap) σ H s :=
  I.pins_of fun p hp => (List.mem_append.mp hp).elim (fun z => I.pin p (List.mem_append_right _ z)) fun z => by
    obtain ⟨hb, e⟩ := of_pinsAt z
    obtain ⟨f0, f1, f2, _⟩ := hf p.1 hb
    obtain ⟨o, e', d⟩ := ho p.1 hb
    rw [e] at e'; cases e'
    exact ⟨e, f0, f1, f2, d⟩
theorem Inv.unpinned {pins pl : List (Addr × Obj)} {σ : St} {H : Hp} {s : Shared} (I : Inv X (pins ++ pl) σ H s) : Inv X pins σ H s := I.pins_of fun p hp => I.pin p (List.mem_append_right _ (List.mem_append_left _ hp))
theorem ps_for {iter : Expr} {body : List Stmt} {wi : TI} {g : TG} {tb : TS} {pos : Pos} (hp : PassesOwn (model X.prog X.w) X.A X.env X.xe) (hc : X.calm = true) (hi : PI X tg iter wi) (hg : PG X tg g) (hb : PSs X body tb)
    (hs : ∀ x, foldedSetIterable iter X.env x = pure x := by intro _; rfl) : PS X (.For tg iter body [] pos) (tFor wi g tb) := by
  intro pins s σ H D I h
  refine wpAny_For (thn (hi pins s σ H _ I h) fun v s1 h1 => thn h1 fun itv s2 h2 => ?_) hs
  obtain ⟨it, fp, tn, J, H2, e, I2, T, st2, f2, W, ⟨m0, w0⟩, turn⟩ := h2
  subst e
  -- what stays true of the iterator's objects through the loop
  have stat : ∀ {H' : Hp}, (∀ b ∈ fp, H' b = none) → ∀ b ∈ fp, FpOk X pins H' b := fun hn b hb => ⟨hn b hb, (f2 b hb).2⟩
  refine codeAny_forLoop_any (fun n s' => ∃ i σ' H', Inv X pins σ' H' s' ∧ tn i s'.heap ∧ (∀ b ∈ fp, H' b = none) ∧ W i n σ' H') ?_ m0 ⟨0, σ, H2, I2, st2, fun b hb => (f2 b hb).1, w0⟩
  rintro n s3 ⟨i, σ3, H3, I3, st3, fr3, w3⟩
  rcases turn i n σ3 H3 w3 with ⟨stop, qn⟩ | ⟨go, N, hN, step⟩
  · refine wpAny_passesOwn hp (thn (T.done X rfl rfl rfl hc i pins s3 σ3 H3 X.xe I3 (stat fr3) st3 stop) fun r s4 ⟨hr, I4⟩ => ?_)
    subst hr
    exact wpAny_execs_nil ⟨σ3, H3, I4, qn⟩
  · refine wpAny_passesOwn hp (thn (T.item X rfl rfl rfl hc i pins s3 σ3 H3 X.xe I3 (stat fr3) st3 go) fun r s4 ⟨u, hr, h4⟩ => ?_)
    subst hr
    refine wpAny_passesOwn hp (thn h4 fun _ s5 ⟨x, H5, I5, r5, y5, st5, fr5⟩ => ?_)
    have I5' := I5.pinned (stat fr5) (T.obj _ _ st5)
    refine wpAny_passesOwn hp (thn (hg _ s5 σ3 H5 x u _ I5' r5 (step x H5 y5)) fun _ s6 ⟨σ6, H6, I6, q6⟩ => ?_)
    refine wpAny_passesOwn hp (thn (hb _ s6 σ6 H6 _ I6 q6) fun f s7 q7 => ?_)
    have again : ∀ {σ7 : St} {H7 : Hp}, Inv X (pins ++ pinsAt fp s5.heap) σ7 H7 s7 → N σ7 H7 → ∃ m, m < n ∧ ∃ i σ' H', Inv X pins σ' H' s7 ∧ tn i s7.heap ∧ (∀ b ∈ fp, H' b = none) ∧ W i m σ' H' := fun {σ7 H7} I7 n7 => by
      obtain ⟨m', hm, w7⟩ := hN σ7 H7 n7
      refine ⟨m', hm, i + 1, σ7, H7, I7.unpinned, T.keep _ _ _ st5 fun b hb o e => (I7.pin (b, o) (List.mem_append_right _ (List.mem_append_right _ (mem_pinsAt hb e)))).1, fun b hb => ?_, w7⟩
      obtain ⟨o, e, d⟩ := T.obj _ _ st5 b hb
      exact (I7.pin (b, o) (List.mem_append_right _ (List.mem_append_right _ (mem_pinsAt hb e)))).2.1
    cases f with
    | next => obtain ⟨σ7, H7, I7, n7⟩ := q7; exact again I7 n7
    | cont => obtain ⟨σ7, H7, I7, n7⟩ := q7; exact again I7 n7
    | brk => obtain ⟨σ7, H7, I7, q7⟩ := q7; exact ⟨σ7, H7, I7.unpinned, q7⟩
    | ret v => obtain ⟨x7, σ7, H7, I7, r7, q7⟩ := q7; exact ⟨x7, σ7, H7, I7.unpinned, r7, q7⟩
end

/-! ### the forms one uses -/
/-- over a list that the body leaves as it is -/
theorem for_list {K : PySem.W.Frag} {a : Addr} {xs : List V} {g : TG} {tb : TS} {D : Ends} {σ : St} {H : Hp} (Pv : Nat → St → Hp → Prop) (h0 : Pv 0 σ H) (hl : ∀ i σ H, i ≤ xs.length → Pv i σ H → SqL K H a xs)
    (hs : ∀ i x σ H, xs[i]? = some x → Pv i σ H → g x σ H fun σ2 H2 => tb { D with nx := Pv (i + 1), ct := Pv (i + 1), bk := D.nx } σ2 H2) (hd : ∀ σ H, Pv xs.length σ H → D.nx σ H) :
    ∃ W : Nat → Nat → St → Hp → Prop, (∃ m, W 0 m σ H) ∧ ∀ i m σ H, W i m σ H →
      ((Itl K a).stop i H ∧ D.nx σ H) ∨ ((Itl K a).go i H ∧ ∃ N : St → Hp → Prop, (∀ σ' H', N σ' H' → ∃ m', m' < m ∧ W (i + 1) m' σ' H') ∧ ∀ x H', (Itl K a).yld i H x H' → g x σ H' fun σ2 H2 => tb { D with nx := N, ct := N, bk := D.nx } σ2 H2) := by
  refine ⟨fun i m σ H => m = xs.length - i ∧ i ≤ xs.length ∧ Pv i σ H, ⟨xs.length, by simp, Nat.zero_le _, h0⟩, ?_⟩
  rintro i m σ H ⟨rfl, hi, p⟩
  have q := hl i σ H hi p
  by_cases hlt : i < xs.length
  · refine .inr ⟨⟨xs, xs[i], q, by simp [hlt]⟩, Pv (i + 1), fun σ' H' p' => ⟨xs.length - (i + 1), by omega, rfl, hlt, p'⟩, fun x H' y => ?_⟩
    obtain ⟨e, y⟩ := y
    subst e
    exact hs i x σ _ (y xs q) p
  · have e : i = xs.length := by omega
    subst e
    exact .inl ⟨⟨xs, q, Nat.le_refl _⟩, hd σ H p⟩
theorem for_tup {K : PySem.W.Frag} {a : Addr} {xs : List V} {g : TG} {tb : TS} {D : Ends} {σ : St} {H : Hp} (Pv : Nat → St → Hp → Prop) (h0 : Pv 0 σ H) (hl : ∀ i σ H, i ≤ xs.length → Pv i σ H → SqT K H a xs)
    (hs : ∀ i x σ H, xs[i]? = some x → Pv i σ H → g x σ H fun σ2 H2 => tb { D with nx := Pv (i + 1), ct := Pv (i + 1), bk := D.nx } σ2 H2) (hd : ∀ σ H, Pv xs.length σ H → D.nx σ H) :
    ∃ W : Nat → Nat → St → Hp → Prop, (∃ m, W 0 m σ H) ∧ ∀ i m σ H, W i m σ H →
      ((Itt K a).stop i H ∧ D.nx σ H) ∨ ((Itt K a).go i H ∧ ∃ N : St → Hp → Prop, (∀ σ' H', N σ' H' → ∃ m', m' < m ∧ W (i + 1) m' σ' H') ∧ ∀ x H', (Itt K a).yld i H x H' → g x σ H' fun σ2 H2 => tb { D with nx := N, ct := N, bk := D.nx } σ2 H2) := by
  refine ⟨fun i m σ H => m = xs.length - i ∧ i ≤ xs.length ∧ Pv i σ H, ⟨xs.length, by simp, Nat.zero_le _, h0⟩, ?_⟩
  rintro i m σ H ⟨rfl, hi, p⟩
  have q := hl i σ H hi p
  by_cases hlt : i < xs.length
  · refine .inr ⟨⟨xs, xs[i], q, by simp [hlt]⟩, Pv (i + 1), fun σ' H' p' => ⟨xs.length - (i + 1), by omega, rfl, hlt, p'⟩, fun x H' y => ?_⟩
    obtain ⟨e, y⟩ := y
    subst e
    exact hs i x σ _ (y xs q) p
  · have e : i = xs.length := by omega
    subst e
    exact .inl ⟨⟨xs, q, Nat.le_refl _⟩, hd σ H p⟩
theorem for_range {lo : Int} {n : Nat} {g : TG} {tb : TS} {D : Ends} {σ : St} {H : Hp} (Pv : Nat → St → Hp → Prop) (h0 : Pv 0 σ H)
    (hs : ∀ i σ H, i < n → Pv i σ H → g (.int (lo + i)) σ H fun σ2 H2 => tb { D with nx := Pv (i + 1), ct := Pv (i + 1), bk := D.nx } σ2 H2) (hd : ∀ σ H, Pv n σ H → D.nx σ H) :
    ∃ W : Nat → Nat → St → Hp → Prop, (∃ m, W 0 m σ H) ∧ ∀ i m σ H, W i m σ H →
      ((Itr lo n).stop i H ∧ D.nx σ H) ∨ ((Itr lo n).go i H ∧ ∃ N : St → Hp → Prop, (∀ σ' H', N σ' H' → ∃ m', m' < m ∧ W (i + 1) m' σ' H') ∧ ∀ x H', (Itr lo n).yld i H x H' → g x σ H' fun σ2 H2 => tb { D with nx := N, ct := N, bk := D.nx } σ2 H2) := by
  refine ⟨fun i m σ H => m = n - i ∧ i ≤ n ∧ Pv i σ H, ⟨n, by simp, Nat.zero_le _, h0⟩, ?_⟩
  rintro i m σ H ⟨rfl, hi, p⟩
  by_cases hlt : i < n
  · refine .inr ⟨hlt, Pv (i + 1), fun σ' H' p' => ⟨n - (i + 1), by omega, rfl, hlt, p'⟩, fun x H' y => ?_⟩
    obtain ⟨e, y⟩ := y
    subst e y
    exact hs i σ _ hlt p
  · have e : i = n := by omega
    subst e
    exact .inl ⟨Nat.le_refl _, hd σ H p⟩
end L2

namespace L2
open PySem PySem.Spec PyProof.Rows

abbrev R2 := V → V → Hp → VK → Prop
/-- a two-place operation on values: f is binaryOp op, inplaceOp op or compareOp op -/
def OpR (X : Cx) (f : Value → Value → Sem Value) (r : R2) : Prop :=
  ∀ (pins : List (Addr × Obj)) (s : Shared) (σ : St) (H : Hp) (x y : V) (v u : Value) (Q : VK), Inv X pins σ H s → RelV x v → RelV y u → r x y H Q →
    wpAny (model X.prog X.w) X.A (f v u) (EP X pins σ Q) X.xe s
/-- a one-place operation -/
def UnR (X : Cx) (f : Value → Sem Value) (r : V → Hp → VK → Prop) : Prop :=
  ∀ (pins : List (Addr × Obj)) (s : Shared) (σ : St) (H : Hp) (x : V) (v : Value) (Q : VK), Inv X pins σ H s → RelV x v → r x H Q →
    wpAny (model X.prog X.w) X.A (f v) (EP X pins σ Q) X.xe s
/-- a call of a value that is known (a builtin, a type) with values -/
def CallR (X : Cx) (f : Value) (r : List V → Hp → VK → Prop) : Prop :=
  ∀ (pins : List (Addr × Obj)) (s : Shared) (σ : St) (H : Hp) (xs : List V) (us : List Value) (Q : VK), Inv X pins σ H s → Vals xs us → r xs H Q →
    wpAny (model X.prog X.w) X.A (call f us) (EP X pins σ Q) X.xe s

def tOp (r : R2) (ta tb : TE) : TE := fun σ H Q => ta σ H fun x H1 => tb σ H1 fun y H2 => r x y H2 Q
def tUn (r : V → Hp → VK → Prop) (ta : TE) : TE := fun σ H Q => ta σ H fun x H1 => r x H1 Q
/-- ints in, under C, and a value out -/
def rI (C : Int → Int → Prop) (g : Int → Int → V) : R2 := fun x y H Q => ∃ i j, x = .int i ∧ y = .int j ∧ C i j ∧ Q (g i j) H
def rI0 (g : Int → Int → V) : R2 := fun x y H Q => ∃ i j, x = .int i ∧ y = .int j ∧ Q (g i j) H
def rU (g : Int → V) : V → Hp → VK → Prop := fun x H Q => ∃ i, x = .int i ∧ Q (g i) H

section
variable {X : Cx} {a b c : Expr} {ta tb tc : TE} {pos : Pos}

theorem binT (ha : PE X a ta) (hb : PE X b tb) {pins : List (Addr × Obj)} {s : Shared} {σ : St} {H : Hp} {R : V → V → Hp → Prop} (I : Inv X pins σ H s)
    (h : ta σ H fun x H1 => tb σ H1 fun y H2 => R x y H2) {Q : Value → Shared → Prop} {f : Value → Value → Sem Value}
    (hf : ∀ v u s2 x y H2, Inv X pins σ H2 s2 → RelV x v → RelV y u → R x y H2 → wpAny (model X.prog X.w) X.A (f v u) Q X.xe s2) :
    wpAny (model X.prog X.w) X.A (eval a X.env) (fun v s₁ => wpAny (model X.prog X.w) X.A (eval b X.env) (fun u s₂ => wpAny (model X.prog X.w) X.A (f v u) Q X.xe s₂) X.xe s₁) X.xe s := by
  refine thn (ha pins s σ H _ I h) fun v s1 ⟨x, H1, I1, r1, q1⟩ => ?_
  refine thn (hb pins s1 σ H1 _ I1 q1) fun u s2 ⟨y, H2, I2, r2, q2⟩ => ?_
  exact hf v u s2 x y H2 I2 r1 r2 q2

theorem pe_op {op : Operator} {r : R2} (ho : OpR X (binaryOp op) r) (ha : PE X a ta) (hb : PE X b tb) : PE X (.BinOp a op b pos) (tOp r ta tb) := by
  intro pins s σ H Q I h
  exact wpAny_BinOp (binT ha hb I h fun v u s2 x y H2 I2 rx ry q => ho pins s2 σ H2 x y v u Q I2 rx ry q)
theorem pe_un {op : UnaryOp} {r : V → Hp → VK → Prop} (ho : UnR X (unaryOp op) r) (ha : PE X a ta) : PE X (.UnaryOp op a pos) (tUn r ta) := by
  intro pins s σ H Q I h
  exact UnaryOp_ (thn (ha pins s σ H _ I h) fun v s1 ⟨x, H1, I1, r1, q1⟩ => ho pins s1 σ H1 x v Q I1 r1 q1)

/-! ### ints -/
theorem opI {f : Value → Value → Sem Value} {C : Int → Int → Prop} {g : Int → Int → Int}
    (rule : ∀ (i j : Int) (t u : Tok) (s : Shared) (Q : Value → Shared → Prop) (E : Value → Shared → Prop), C i j → Q (.int (g i j) s.toks) { s with toks := s.toks + 1 } → wpAny (model X.prog X.w) X.A (f (.int i t) (.int j u)) Q E s) :
    OpR X f (rI C fun i j => .int (g i j)) := by
  intro pins s σ H x y v u Q I rx ry h
  obtain ⟨i, j, rfl, rfl, hc, q⟩ := h
  obtain ⟨t, rfl⟩ := rx
  obtain ⟨t', rfl⟩ := ry
  exact rule i j t t' s _ _ hc ⟨.int (g i j), H, I.tok _, ⟨_, rfl⟩, q⟩
theorem opI0 {f : Value → Value → Sem Value} {g : Int → Int → Int}
    (rule : ∀ (i j : Int) (t u : Tok) (s : Shared) (Q : Value → Shared → Prop) (E : Value → Shared → Prop), Q (.int (g i j) s.toks) { s with toks := s.toks + 1 } → wpAny (model X.prog X.w) X.A (f (.int i t) (.int j u)) Q E s) :
    OpR X f (rI0 fun i j => .int (g i j)) := by
  intro pins s σ H x y v u Q I rx ry h
  obtain ⟨i, j, rfl, rfl, q⟩ := h
  obtain ⟨t, rfl⟩ := rx
  obtain ⟨t', rfl⟩ := ry
  exact rule i j t t' s _ _ ⟨.int (g i j), H, I.tok _, ⟨_, rfl⟩, q⟩
theorem opB0 {f : Value → Value → Sem Value} {g : Int → Int → Bool}
    (rule : ∀ (i j : Int) (t u : Tok) (s : Shared) (Q : Value → Shared → Prop) (E : Value → Shared → Prop), Q (.bool (g i j)) s → wpAny (model X.prog X.w) X.A (f (.int i t) (.int j u)) Q E s) :
    OpR X f (rI0 fun i j => .bl (g i j)) := by
  intro pins s σ H x y v u Q I rx ry h
  obtain ⟨i, j, rfl, rfl, q⟩ := h
  obtain ⟨t, rfl⟩ := rx
  obtain ⟨t', rfl⟩ := ry
  exact rule i j t t' s _ _ ⟨.bl (g i j), H, I, rfl, q⟩

def CPow (i j : Int) : Prop := 0 ≤ j ∧ j ≤ 1000000 ∧ i.natAbs < 2 ^ 64

theorem op_add : OpR X (binaryOp .Add) (rI0 fun i j => .int (i + j)) := opI0 fun _ _ _ _ _ _ _ q => add_int q
theorem op_sub : OpR X (binaryOp .Sub) (rI0 fun i j => .int (i - j)) := opI0 fun _ _ _ _ _ _ _ q => sub_int q
theorem op_modN : OpR X (binaryOp .Mod) (rI (fun _ j => j ≠ 0) fun i j => .int (i.fmod j)) := opI fun _ _ _ _ _ _ _ hc q => mod_int' hc q
theorem op_pow : OpR X (binaryOp .Pow) (rI CPow fun i j => .int (i ^ j.toNat)) := opI fun _ _ _ _ _ _ _ hc q => pow_int_small hc.1 hc.2.1 hc.2.2 q


theorem unI {f : Value → Sem Value} {g : Int → Int}
    (rule : ∀ (i : Int) (t : Tok) (s : Shared) (Q : Value → Shared → Prop) (E : Value → Shared → Prop), Q (.int (g i) s.toks) { s with toks := s.toks + 1 } → wpAny (model X.prog X.w) X.A (f (.int i t)) Q E s) :
    UnR X f (rU fun i => .int (g i)) := by
  intro pins s σ H x v Q I rx h
  obtain ⟨i, rfl, q⟩ := h
  obtain ⟨t, rfl⟩ := rx
  exact rule i t s _ _ ⟨.int (g i), H, I.tok _, ⟨_, rfl⟩, q⟩
theorem un_neg : UnR X (unaryOp .USub) (rU fun i => .int (-i)) := unI fun _ _ _ _ _ q => neg_int q

/-! ### bools among ints: n += (a < b) -/
end

/-! ### comparisons -/
/-- the scalars that == tells apart as data does -/
def scal : V → V → Bool
  | .non, .non => true | .non, .int _ => true | .int _, .non => true | .non, .bl _ => true | .bl _, .non => true | .non, .str _ => true | .str _, .non => true
  | .int _, .int _ => true | .bl _, .bl _ => true | .str _, .str _ => true | .byt _, .byt _ => true
  | .int _, .str _ => true | .str _, .int _ => true | .bl _, .str _ => true | .str _, .bl _ => true
  | _, _ => false
def rEq : R2 := fun x y H Q => scal x y = true ∧ Q (.bl (decide (x = y))) H
def rNe : R2 := fun x y H Q => scal x y = true ∧ Q (.bl (!decide (x = y))) H

theorem dec_int {i j : Int} : decide (V.int i = V.int j) = (i == j) := by
  rw [Bool.eq_iff_iff]
  simp
theorem dec_bl {i j : Bool} : decide (V.bl i = V.bl j) = (i == j) := by
  rw [Bool.eq_iff_iff]
  simp
theorem dec_str {i j : Str} : decide (V.str i = V.str j) = (i == j) := by
  rw [Bool.eq_iff_iff]
  simp
theorem dec_byt {i j : Array UInt8} : decide (V.byt i = V.byt j) = (i.toList == j.toList) := by
  rw [Bool.eq_iff_iff]
  cases i
  cases j
  simp

section
variable {X : Cx} {a b c : Expr} {ta tb tc : TE} {pos : Pos}
theorem fin_bl {pins : List (Addr × Obj)} {σ : St} {H : Hp} {s : Shared} {Q : VK} {k k' : Bool} (I : Inv X pins σ H s) (q : Q (.bl k) H) (e : k = k') : EP X pins σ Q (.bool k') s := by
  subst e
  exact ⟨.bl k, H, I, rfl, q⟩
theorem op_eq : OpR X (compareOp .Eq) rEq := by
  intro pins s σ H x y v u Q I rx ry h
  obtain ⟨hs, q⟩ := h
  cases x with
  | non =>
    cases rx
    cases y with
    | non => cases ry; exact PySem.EqNone.eq_none_none (fin_bl I q (by simp))
    | bl j => cases ry; exact PySem.EqNone.eq_none_bool (fin_bl I q (by simp))
    | int j => obtain ⟨t', rfl⟩ := ry; exact PySem.EqNone.eq_none_int (fin_bl I q (by simp))
    | str j => obtain ⟨t', rfl⟩ := ry; exact PySem.EqNone.eq_none_str (fin_bl I q (by simp))
    | _ => exact absurd (show false = true from hs) Bool.false_ne_true
  | bl i =>
    cases rx
    cases y with
    | non => cases ry; exact PySem.EqNone.eq_bool_none (fin_bl I q (by simp))
    | bl j => cases ry; exact eq_bool (fin_bl I q dec_bl)
    | str j => obtain ⟨t', rfl⟩ := ry; exact PySem.EqMixed.eq_bool_str (fin_bl I q (by simp))
    | _ => exact absurd (show false = true from hs) Bool.false_ne_true
  | int i =>
    obtain ⟨t, rfl⟩ := rx
    cases y with
    | non => cases ry; exact PySem.EqNone.eq_int_none (fin_bl I q (by simp))
    | int j => obtain ⟨t', rfl⟩ := ry; exact eq_int (fin_bl I q dec_int)
    | str j => obtain ⟨t', rfl⟩ := ry; exact PySem.EqMixed.eq_int_str (fin_bl I q (by simp))
    | _ => exact absurd (show false = true from hs) Bool.false_ne_true
  | str i =>
    obtain ⟨t, rfl⟩ := rx
    cases y with
    | non => cases ry; exact PySem.EqNone.eq_str_none (fin_bl I q (by simp))
    | bl j => cases ry; exact PySem.EqMixed.eq_str_bool (fin_bl I q (by simp))
    | int j => obtain ⟨t', rfl⟩ := ry; exact PySem.EqMixed.eq_str_int (fin_bl I q (by simp))
    | str j => obtain ⟨t', rfl⟩ := ry; exact eq_str (fin_bl I q dec_str)
    | _ => exact absurd (show false = true from hs) Bool.false_ne_true
  | byt i =>
    obtain ⟨t, rfl⟩ := rx
    cases y with
    | byt j => obtain ⟨t', rfl⟩ := ry; exact PySem.W.eq_bytes (fin_bl I q dec_byt)
    | _ => exact absurd (show false = true from hs) Bool.false_ne_true
  | _ => cases y <;> exact absurd (show false = true from hs) Bool.false_ne_true
theorem op_ne : OpR X (compareOp .NotEq) rNe := by
  intro pins s σ H x y v u Q I rx ry h
  obtain ⟨hs, q⟩ := h
  cases x with
  | non =>
    cases rx
    cases y with
    | non => cases ry; exact PySem.EqNone.ne_none_none (fin_bl I q (by simp))
    | bl j => cases ry; exact PySem.EqNone.ne_none_bool (fin_bl I q (by simp))
    | int j => obtain ⟨t', rfl⟩ := ry; exact PySem.EqNone.ne_none_int (fin_bl I q (by simp))
    | str j => obtain ⟨t', rfl⟩ := ry; exact PySem.EqNone.ne_none_str (fin_bl I q (by simp))
    | _ => exact absurd (show false = true from hs) Bool.false_ne_true
  | bl i =>
    cases rx
    cases y with
    | non => cases ry; exact PySem.EqNone.ne_bool_none (fin_bl I q (by simp))
    | bl j => cases ry; exact ne_bool (fin_bl I q (congrArg not dec_bl))
    | str j => obtain ⟨t', rfl⟩ := ry; exact PySem.EqMixed.ne_bool_str (fin_bl I q (by simp))
    | _ => exact absurd (show false = true from hs) Bool.false_ne_true
  | int i =>
    obtain ⟨t, rfl⟩ := rx
    cases y with
    | non => cases ry; exact PySem.EqNone.ne_int_none (fin_bl I q (by simp))
    | int j => obtain ⟨t', rfl⟩ := ry; exact ne_int (fin_bl I q (congrArg not dec_int))
    | str j => obtain ⟨t', rfl⟩ := ry; exact PySem.EqMixed.ne_int_str (fin_bl I q (by simp))
    | _ => exact absurd (show false = true from hs) Bool.false_ne_true
  | str i =>
    obtain ⟨t, rfl⟩ := rx
    cases y with
    | non => cases ry; exact PySem.EqNone.ne_str_none (fin_bl I q (by simp))
    | bl j => cases ry; exact PySem.EqMixed.ne_str_bool (fin_bl I q (by simp))
    | int j => obtain ⟨t', rfl⟩ := ry; exact PySem.EqMixed.ne_str_int (fin_bl I q (by simp))
    | str j => obtain ⟨t', rfl⟩ := ry; exact ne_str (fin_bl I q (congrArg not dec_str))
    | _ => exact absurd (show false = true from hs) Bool.false_ne_true
  | byt i =>
    obtain ⟨t, rfl⟩ := rx
    cases y with
    | byt j => obtain ⟨t', rfl⟩ := ry; exact PySem.W.ne_bytes (fin_bl I q (congrArg not dec_byt))
    | _ => exact absurd (show false = true from hs) Bool.false_ne_true
  | _ => cases y <;> exact absurd (show false = true from hs) Bool.false_ne_true

theorem op_lt : OpR X (compareOp .Lt) (rI0 fun i j => .bl (decide (i < j))) := opB0 fun _ _ _ _ _ _ _ q => lt_int q
theorem op_gt : OpR X (compareOp .Gt) (rI0 fun i j => .bl (decide (j < i))) := opB0 fun _ _ _ _ _ _ _ q => gt_int q
theorem op_ge : OpR X (compareOp .GtE) (rI0 fun i j => .bl (decide (j ≤ i))) := opB0 fun _ _ _ _ _ _ _ q => ge_int q
/-- the one string within the other -/
theorem op_in_str : OpR X (compareOp .In) (fun x y H Q => ∃ i j, x = .str i ∧ y = .str j ∧ Q (.bl (!(Builtin.Str.occurrences j i 0 j.length 1).isEmpty)) H) := by
  intro pins s σ H x y v u Q I rx ry h
  obtain ⟨i, j, rfl, rfl, q⟩ := h
  obtain ⟨t, rfl⟩ := rx
  obtain ⟨t', rfl⟩ := ry
  exact in_str (fin_bl I q rfl)

/-- is None, is not None: the right side a value none -/
theorem op_isN : OpR X (compareOp .Is) (fun x y H Q => y = .non ∧ Q (.bl (decide (x = .non))) H) := by
  intro pins s σ H x y v u Q I rx ry h
  obtain ⟨rfl, q⟩ := h
  cases ry
  refine is_none_gen (fin_bl I q ?_)
  cases x <;> first
    | (cases rx; rfl)
    | (obtain ⟨t, rfl⟩ := rx; rfl)



theorem nomark (b : Expr) {op : CmpOp} (h : op ≠ .In := by decide) (h2 : op ≠ .NotIn := by decide) : behindInMarks op b = false := by
  have e1 : (op == CmpOp.In) = false := by cases op <;> first | rfl | exact absurd rfl h
  have e2 : (op == CmpOp.NotIn) = false := by cases op <;> first | rfl | exact absurd rfl h2
  cases b <;> simp [behindInMarks, e1, e2]
/-- a comparison as a value; hm: nomark b, or (for in, not in) by with_unfolding_all rfl -/
theorem pe_cmpR {op : CmpOp} {r : R2} (ho : OpR X (compareOp op) r) (ha : PE X a ta) (hb : PE X b tb) (hm : behindInMarks op b = false) : PE X (.Compare a [op] [b] pos) (tOp r ta tb) := by
  intro pins s σ H Q I h
  exact wpAny_Compare1 (binT ha hb I h fun v u s2 x y H2 I2 rx ry q => ho pins s2 σ H2 x y v u Q I2 rx ry q) hm
/-- a reading of a value as a test -/
def tTest (t : TE) : TT := fun σ H Q => t σ H fun x H' => ∃ k, x = .bl k ∧ Q k H'
theorem pt_cmpR {op : CmpOp} {r : R2} (ho : OpR X (compareOp op) r) (ha : PE X a ta) (hb : PE X b tb) (hm : behindInMarks op b = false) : PT X (.Compare a [op] [b] pos) (tTest (tOp r ta tb)) := by
  intro pins s σ H Q I h
  refine wpAny_isTrue_Compare1 (thn (ha pins s σ H _ I h) fun v s1 ⟨x, H1, I1, r1, q1⟩ => thn (hb pins s1 σ H1 _ I1 q1) fun u s2 ⟨y, H2, I2, r2, q2⟩ =>
    thn (ho pins s2 σ H2 x y v u _ I2 r1 r2 q2) fun c s3 ⟨z, H3, I3, r3, k, e, q3⟩ => ?_) hm
  subst e
  cases r3
  exact wpAny_truthy_bool ⟨H3, I3, q3⟩

/-! ### truth -/
theorem line63 : (sizeLine : Nat) < 2 ^ 63 := by rw [sizeLine_eq]; decide

/-! ### strs and bytes -/
theorem op_add_str : OpR X (binaryOp .Add) (fun x y H Q => ∃ i j, x = .str i ∧ y = .str j ∧ i.length + j.length ≤ sizeLine ∧ Q (.str (i ++ j)) H) := by
  intro pins s σ H x y v u Q I rx ry h
  obtain ⟨i, j, rfl, rfl, hz, q⟩ := h
  obtain ⟨t, rfl⟩ := rx
  obtain ⟨t', rfl⟩ := ry
  exact add_str (fun t' tk => ⟨.str (i ++ j), H, I.tok _, ⟨_, rfl⟩, q⟩) hz


/-! ### scalar builtins, by CallR -/
theorem vals1 {x : V} {us : List Value} (r : Vals [x] us) : ∃ u, us = [u] ∧ RelV x u := by
  cases r with
  | cons r1 r2 => cases r2; exact ⟨_, rfl, r1⟩
theorem vals2 {x y : V} {us : List Value} (r : Vals [x, y] us) : ∃ u w', us = [u, w'] ∧ RelV x u ∧ RelV y w' := by
  cases r with
  | cons r1 r2 =>
    cases r2 with
    | cons r3 r4 => cases r4; exact ⟨_, _, rfl, r1, r3⟩
theorem call_abs : CallR X (.builtin "abs") (fun xs H Q => ∃ i, xs = [.int i] ∧ Q (.int (if i < 0 then -i else i)) H) := by
  intro pins s σ H xs us Q I r h
  obtain ⟨i, rfl, q⟩ := h
  obtain ⟨u, rfl, t, rfl⟩ := vals1 r
  exact call_abs_int fun u tk => ⟨.int (if i < 0 then -i else i), H, I.tok _, ⟨_, rfl⟩, q⟩
theorem call_max2 (hc : X.calm = true) : CallR X (.builtin "max") (fun xs H Q => ∃ i j, xs = [.int i, .int j] ∧ Q (.int (if j > i then j else i)) H) := by
  intro pins s σ H xs us Q I r h
  obtain ⟨i, j, rfl, q⟩ := h
  obtain ⟨u, w', rfl, ⟨t, rfl⟩, ⟨t', rfl⟩⟩ := vals2 r
  refine max_two_ints (I.ok.hd hc) fun h' tk k => ⟨_, H, I.kept k, ?_, q⟩
  by_cases hj : j > i
  · rw [if_pos hj, if_pos hj]; exact ⟨_, rfl⟩
  · rw [if_neg hj, if_neg hj]; exact ⟨_, rfl⟩
theorem call_int1 : CallR X (.type "int") (fun xs H Q => (∃ i, xs = [.int i] ∧ Q (.int i) H) ∨ ∃ k, xs = [.bl k] ∧ Q (.int (if k then 1 else 0)) H) := by
  intro pins s σ H xs us Q I r h
  rcases h with ⟨i, rfl, q⟩ | ⟨k, rfl, q⟩
  · obtain ⟨u, rfl, t, rfl⟩ := vals1 r
    exact call_int_int ⟨.int i, H, I, ⟨_, rfl⟩, q⟩
  · obtain ⟨u, rfl, r1⟩ := vals1 r
    cases r1
    exact call_int_bool ⟨.int (if k then 1 else 0), H, I.tok _, ⟨_, rfl⟩, q⟩
end
end L2

namespace L2
open PySem PySem.Spec PyProof.Rows

/-! ### an instance, its attributes a map -/
structure ObjM (h : Heap) (x dx C : Addr) (mA : Str → Option Value) : Prop where
  obj : h.get? x = some (PySem.W.instObj C dx)
  ns : h.Ns1 dx mA
  ne : dx ≠ x

theorem lookIn_ns {h : Heap} {dx : Addr} {mA : Str → Option Value} (n : h.Ns1 dx mA) : ∃ od, h.get? dx = some od ∧ ∀ name, PySem.W.lookIn name od = some (mA name) := by
  obtain ⟨o, es, ep, ho, hd, hk, _, hm⟩ := n
  refine ⟨o, ho, fun name => ?_⟩
  have e := hm name
  unfold nsFind findBy at e
  rw [← Array.find?_toList] at e
  unfold PySem.W.lookIn
  rw [hd]
  dsimp only
  split
  · rename_i y q
    rw [q] at e
    exact congrArg some e
  · rename_i q
    rw [q] at e
    have a : es.toList.any (·.refKey) = false := by
      rw [List.any_eq_false]
      intro y hy
      obtain ⟨z, t, hkey⟩ := hk y (Array.mem_toList_iff.mp hy)
      simp [DictEntry.refKey, hkey]
    have a' : ¬ es.toList.any (·.refKey) = true := by rw [a]; exact Bool.false_ne_true
    rw [if_neg a']
    exact congrArg some e

theorem ObjM.look {h : Heap} {x dx C : Addr} {mA : Str → Option Value} (I : ObjM h x dx C mA) : ∃ od, PySem.W.InstAt h x (PySem.W.instObj C dx) C (some od) ∧ ∀ name, PySem.W.lookIn name od = some (mA name) :=
  let ⟨od, ho, hl⟩ := lookIn_ns I.ns
  ⟨od, ⟨I.obj, rfl, rfl, ho⟩, hl⟩

section
variable {prog : Program} {w : World} {A : Around} {E : Value → Shared → Prop} {s : Shared} {K : PySem.W.Frag} {x dx C f : Addr} {mA : Str → Option Value} {name : Str} {v : Value}





end

/-! ### the attributes as a list of pairs -/

theorem RelO.some_of {v : V} {o : Option Value} (r : RelO (some v) o) : ∃ u, o = some u ∧ RelV v u := by
  cases o with
  | none => exact (show False from r).elim
  | some u => exact ⟨u, rfl, r⟩

section
variable {P : Program} {w : World} {H H' : Hp} {h h' : Heap} {a C dx : Addr} {fs fs' : List (Str × V)}
theorem ins_get (hok : HOk P w H h) (e : H a = some (.ins C dx fs)) : ∃ mA, ObjM h a dx C mA ∧ (∀ f, RelO (fs.lookup f) (mA f)) ∧ PySem.Within mA (fs.map (·.1)) ∧ fs.length ≤ 1000 ∧ H dx = some (.own a) := by
  obtain ⟨d, z, ne, ob, mA, n, r, q⟩ := (show ObjOk P w H h a (.ins C dx fs) from hok a _ e)
  exact ⟨mA, ⟨ob, n, ne⟩, r, q, z, d⟩
end

/-! ### what of the text a class must have -/
structure Cls (K : PySem.W.Frag) (C : Addr) : Prop where
  pg : PySem.W.plainGet K C Str.empty = true
  hd : PySem.W.hasDictIn K C = true
  po : PySem.W.plainOver K C = true
  sa : PySem.W.findIn K (.ref C) "__setattr__" = some (some (.builtin "object.__setattr__"))
theorem Cls.get {K : PySem.W.Frag} {C : Addr} (c : Cls K C) (f : Str) : PySem.W.plainGet K C f = true := c.pg

section
variable {X : Cx} {pins : List (Addr × Obj)} {σ : St} {H : Hp} {s : Shared} {a C dx : Addr} {fs : List (Str × V)} {f : Str} {v : V} {A : Around} {E : Value → Shared → Prop}






end

/-! ### readings and rules -/

section
variable {X : Cx} {o e value : Expr} {f : Str} {pos pos' tpos : Pos} {ta tv : TE}

end

/-! ### isinstance -/
section
variable {X : Cx} {pins : List (Addr × Obj)} {σ : St} {H : Hp} {s : Shared} {A : Around} {E : Value → Shared → Prop} {Q : Value → Shared → Prop} {c : Value} {b : Bool}
/-- the type of a value, as the fragment's deciders take it; for an instance its class -/
inductive TyOf (K : PySem.W.Frag) (H : Hp) : V → Value → Prop where
  | non : TyOf K H .non (.type "NoneType")
  | bl (x : Bool) : TyOf K H (.bl x) (.type "bool")
  | int (i : Int) : TyOf K H (.int i) (.type "int")
  | str (x : Str) : TyOf K H (.str x) (.type "str")
  | flt (x : UInt64) : TyOf K H (.flt x) (.type "float")
  | lst {a : Addr} {xs : List V} (e : H a = some (.lst xs)) : TyOf K H (.ref a) (.type "list")
  | frz {a : Addr} {o : Obj} {xs : List V} (e : H a = some (.frz o (.lst xs))) : TyOf K H (.ref a) (.type "list")
  | tup {a : Addr} {xs : List V} (e : H a = some (.tup xs)) : TyOf K H (.ref a) (.type "tuple")
  | dK {a : Addr} {kvs : List (Key × V)} (e : H a = some (.dK kvs)) : TyOf K H (.ref a) (.type "dict")
  | dT {a : Addr} {kvs : List (List Key × V)} (e : H a = some (.dT kvs)) : TyOf K H (.ref a) (.type "dict")
  | ins {a C dx : Addr} {fs : List (Str × V)} (e : H a = some (.ins C dx fs)) (cl : Cls K C) (ha : PySem.W.findIn K (.ref C) "__class__" = some (some (.builtin "object.__class__")))
      (hn : PySem.W.specialIn K (.builtin "object.__class__") "__get__" = some (some (.builtin "getset_descriptor.__get__"))) (htk : PySem.W.takesIn K (.builtin "object.__class__") = some true)
      (hm : PySem.W.mroIn K C (.type "object") = some true) : TyOf K H (.ref a) (.ref C)
/-- isinstance(x, c) for one class c, a built-in or an own one: kitOne's answer -/
theorem isinst_ok {x : V} {u t : Value} (I : Inv X pins σ H s) (rx : RelV x u) (ty : TyOf X.K H x t) (e : PySem.W.kitOne X.K t c = some b) (h : ∀ tk, Q (.bool b) { s with toks := tk }) :
    wpAny (model X.prog X.w) A (call (.builtin "isinstance") [u, c]) Q E s := by
  cases ty with
  | non => cases (show u = Value.none from rx); exact PySem.W.kia_one PySem.W.kitx_none I.kIn True.intro e (fun z => nomatch z) h
  | bl y => cases (show u = Value.bool y from rx); exact PySem.W.kia_one PySem.W.kitx_bool I.kIn True.intro e (fun z => nomatch z) h
  | int i => obtain ⟨t, q⟩ := (show ∃ t, u = Value.int i t from rx); cases q; exact PySem.W.kia_one PySem.W.kitx_int I.kIn True.intro e (fun z => nomatch z) h
  | str y => obtain ⟨t, q⟩ := (show ∃ t, u = Value.str y t from rx); cases q; exact PySem.W.kia_one PySem.W.kitx_str I.kIn True.intro e (fun z => nomatch z) h
  | flt y => obtain ⟨t, q⟩ := (show ∃ t, u = Value.float y t from rx); cases q; exact PySem.W.kia_one PySem.W.kitx_float I.kIn True.intro e (fun z => nomatch z) h
  | @lst a xs ea =>
    cases (show u = Value.ref a from rx)
    obtain ⟨_, _, n, _, h1⟩ := (show ObjOk X.prog X.w H s.heap a (.lst xs) from I.hok a _ ea)
    exact PySem.W.kia_one PySem.W.kitx_list I.kIn ⟨_, h1, rfl⟩ e (fun z => nomatch z) h
  | @frz a ob xs ea =>
    cases (show u = Value.ref a from rx)
    obtain ⟨_, _, _, n, _, h1⟩ := (show ObjOk X.prog X.w H s.heap a (.frz ob (.lst xs)) from I.hok a _ ea)
    exact PySem.W.kia_one PySem.W.kitx_list I.kIn ⟨_, h1, rfl⟩ e (fun z => nomatch z) h
  | @tup a xs ea =>
    cases (show u = Value.ref a from rx)
    obtain ⟨_, _, _, p⟩ := (show ObjOk X.prog X.w H s.heap a (.tup xs) from I.hok a _ ea)
    obtain ⟨o, h1, h2, _⟩ := p
    exact PySem.W.kia_one PySem.W.kitx_tuple I.kIn ⟨o, h1, h2⟩ e (fun z => nomatch z) h
  | @dK a kvs ea =>
    cases (show u = Value.ref a from rx)
    obtain ⟨_, _, vs, _, p⟩ := (show ObjOk X.prog X.w H s.heap a (.dK kvs) from I.hok a _ ea)
    obtain ⟨o, es, ep, h1, h2, _⟩ := p
    exact PySem.W.kia_one PySem.W.kitx_dict I.kIn ⟨o, h1, h2.1⟩ e (fun z => nomatch z) h
  | @dT a kvs ea =>
    cases (show u = Value.ref a from rx)
    obtain ⟨_, _, xs, _, o, es, ep, h1, h2, _⟩ := (show ObjOk X.prog X.w H s.heap a (.dT kvs) from I.hok a _ ea)
    exact PySem.W.kia_one PySem.W.kitx_dict I.kIn ⟨o, h1, h2.1⟩ e (fun z => nomatch z) h
  | @ins a C dx fs ea cl ha hn htk hm =>
    cases (show u = Value.ref a from rx)
    obtain ⟨mA, O, _⟩ := ins_get I.hok ea
    obtain ⟨od, J, _⟩ := O.look
    exact PySem.W.kia_one (PySem.W.kitx_own (cl.get _) cl.hd ha hn htk hm) I.kIn J e (fun z => nomatch z) h
end
end L2

namespace L2
open PySem PySem.Spec PyProof.Rows

/-! ### room -/
structure Room (k : Nat) (A : Around) : Prop where
  hd : A.handled = none
  dp : A.depth + 3 * k + 5 < recursionLimit
  un : A.units + 16 * k + 200 < cLine
theorem Room.mono {j k : Nat} {A : Around} (r : Room k A) (h : j ≤ k) : Room j A := ⟨r.hd, by have := r.dp; omega, by have := r.un; omega⟩
theorem Room.deeper {k : Nat} {A : Around} (r : Room (k + 1) A) (env : Env) : Room k (A.deeper env) :=
  ⟨r.hd, by have := r.dp; show A.depth + 1 + 3 * k + 5 < _; omega, by have := r.un; show A.units + 3 + 16 * k + 200 < _; omega⟩
theorem Room.depth {k : Nat} {A : Around} (r : Room k A) : A.depth < recursionLimit := by have := r.dp; omega
theorem Room.units {k : Nat} {A : Around} (r : Room k A) : A.units + 64 < cLine := by have := r.un; omega

/-! ### argument lists and displays -/
def tNil : TA := fun _ H Q => Q [] H
def tCons (ta : TE) (tr : TA) : TA := fun σ H Q => ta σ H fun x H1 => tr σ H1 fun xs H2 => Q (x :: xs) H2
section
variable {X : Cx} {e : Expr} {es : List Expr} {te : TE} {t : TA} {pos : Pos}
theorem pa_nil : PA X [] tNil := fun _ _ _ _ H Q I h => Calls.spliced_nil ⟨[], H, I, .nil, h⟩
theorem pa_cons (ha : PE X e te) (hr : PA X es t) (hs : starEach (e :: es) X.env = (false, eval e X.env) :: starEach es X.env := by rfl) : PA X (e :: es) (tCons te t) := by
  intro pos pins s σ H Q I h
  rw [hs]
  show wpAny _ _ (spliced ((false, eval e X.env) :: backTo pos (starEach es X.env))) _ _ s
  refine Calls.spliced_cons (thn (ha pins s σ H _ I h) fun u s1 ⟨x, H1, I1, r1, q1⟩ => ?_)
  exact thn (hr pos pins s1 σ H1 _ I1 q1) fun us s2 ⟨xs, H2, I2, r2, q2⟩ => ⟨x :: xs, H2, I2, .cons r1 r2, q2⟩

/-- a tuple, a list of written items -/
def tTup (t : TA) : TE := fun σ H Q => t σ H fun xs H1 => xs.length ≤ sizeLine ∧ ∀ p, H1 p = none → Q (.ref p) (upd H1 p (.tup xs))
def tLst (t : TA) : TE := fun σ H Q => t σ H fun xs H1 => xs.length ≤ sizeLine ∧ ∀ p, H1 p = none → Q (.ref p) (upd H1 p (.lst xs))
theorem pe_tup {x1} (h : PA X es t) : PE X (.Tuple es x1 pos) (tTup t) := by
  intro pins s σ H Q I hq
  refine wpAny_Tuple_spliced (thn (h pos pins s σ H _ I hq) fun us s1 ⟨xs, H1, I1, r, z, q⟩ => ⟨by rw [← r.length]; exact z, ?_⟩)
  have hf : H1 s1.heap.objs.size = none := I1.hok.fresh (Nat.le_refl _)
  refine ⟨.ref s1.heap.objs.size, upd H1 s1.heap.objs.size (.tup xs), I1.laid (t' := s1.toks) (fun b u e => Heap.get?_push_of_some _ e) (Nat.le_refl _) ?_, rfl, q _ hf⟩
  exact ⟨z, us, r, ⟨_, Heap.get?_push_size _ rfl, rfl, _, rfl⟩⟩
theorem pe_lst (h : PA X es t) : PE X (.List es pos) (tLst t) := by
  intro pins s σ H Q I hq
  refine wpAny_List_spliced (thn (h pos pins s σ H _ I hq) fun us s1 ⟨xs, H1, I1, r, z, q⟩ => ⟨by rw [← r.length]; exact z, ?_⟩)
  have hf : H1 s1.heap.objs.size = none := I1.hok.fresh (Nat.le_refl _)
  refine ⟨.ref s1.heap.objs.size, upd H1 s1.heap.objs.size (.lst xs), I1.laid (t' := s1.toks) (fun b u e => Heap.get?_push_of_some _ e) (Nat.le_refl _) ?_, rfl, q _ hf⟩
  exact ⟨z, us, 0, r, Heap.get?_push_size _ rfl⟩
end

/-! ### what a def promises -/
/-- a def's promise: the bound arguments in the parameters' order, the heap, the wanted end, the wanted exception -/
abbrev Sp := List V → Hp → VK → XK → Prop
/-- how an exception lies behind a call (file 08 gives it): the callers' frames, abstract heap and state ahead of the call, the wish, the exception, the state -/
abbrev CXT := List Env → Hp → Shared → XK → Value → Shared → Prop

/-- the state at a call -/
structure Env0 (P : Program) (w : World) (K : PySem.W.Frag) (mg : Str → Option Value) (base : Heap) (A : Around) (outer : List Env) (s : Shared) (H : Hp) : Prop where
  frames : A.frames = some outer
  mod : Mod K mg base
  bs : ∀ b o, base.get? b = some o → s.heap.get? b = some o ∧ H b = none
  bsz : base.objs.size ≤ s.heap.objs.size
  funs : s.heap.FunFrames base outer
  frf : ∀ b ∈ frs outer, H b = none
  hok : HOk P w H s.heap
  bare : AllBare s.gens
/-- a call's end -/
def CE (outer : List Env) (P : Program) (w : World) (H : Hp) (s : Shared) (Q : VK) (u : Value) (s' : Shared) : Prop :=
  ∃ v H', s'.os = s.os ∧ AllBare s'.gens ∧ Un (frs outer) [] H H' s.heap s'.heap ∧ HOk P w H' s'.heap ∧ RelV v u ∧ Q v H'
def CR (CX : CXT) (outer : List Env) (P : Program) (w : World) (H : Hp) (s : Shared) (Q : VK) (E : XK) (r : Result) (s' : Shared) : Prop :=
  match r with
  | .ok (.ret u) => CE outer P w H s Q u s'
  | .ok _ => False
  | .error e => CX outer H s E e s'
structure FnOk (P : Program) (w : World) (K : PySem.W.Frag) (mg : Str → Option Value) (base : Heap) (CX : CXT) (k : Nat) (f : Addr) (fd : FuncData) (ps : List Str) (sp : Sp) : Prop where
  len : ∀ vs H Q E, sp vs H Q E → vs.length = ps.length
  run : ∀ (A : Around) (outer : List Env) (s : Shared) (H : Hp) (args : Args) (us : List Value) (vs : List V) (Q : VK) (E : XK), Room k A → Env0 P w K mg base A outer s H → BindsTo s fd args (ps.zip us) → Vals vs us → sp vs H Q E →
    codeAny (model P w) A (.call (.ref f) args) (CR CX outer P w H s Q E) s
theorem FnOk.mono {P : Program} {w : World} {K : PySem.W.Frag} {mg : Str → Option Value} {base : Heap} {CX : CXT} {j k : Nat} {f : Addr} {fd : FuncData} {ps : List Str} {sp : Sp} (F : FnOk P w K mg base CX j f fd ps sp) (h : j ≤ k) :
    FnOk P w K mg base CX k f fd ps sp := ⟨F.len, fun A outer s H args us vs Q E hr => F.run A outer s H args us vs Q E (hr.mono h)⟩
/-- a weaker promise -/
theorem FnOk.imp {P : Program} {w : World} {K : PySem.W.Frag} {mg : Str → Option Value} {base : Heap} {CX : CXT} {k : Nat} {f : Addr} {fd : FuncData} {ps : List Str} {sp sp' : Sp} (F : FnOk P w K mg base CX k f fd ps sp)
    (h : ∀ vs H Q E, sp' vs H Q E → sp vs H Q E) : FnOk P w K mg base CX k f fd ps sp' :=
  ⟨fun vs H Q E q => F.len vs H Q E (h _ _ _ _ q), fun A outer s H args us vs Q E hr he hb hv hs => F.run A outer s H args us vs Q E hr he hb hv (h _ _ _ _ hs)⟩


section
variable {X : Cx} {pins : List (Addr × Obj)} {σ : St} {H : Hp} {s s' : Shared}
/-- from a body: what a callee wants -/
theorem Inv.env0 (I : Inv X pins σ H s) : Env0 X.prog X.w X.K X.mg X.base X.A X.stack s H :=
  ⟨I.ok.frames, I.ok.mod, I.bs, Nat.le_trans I.ok.bsz I.sz, I.stack, I.stkFree, I.hok, I.bare⟩
/-- behind a call -/
theorem Inv.after {Q : VK} {u : Value} (I : Inv X pins σ H s) (h : CE X.stack X.prog X.w H s Q u s') : EP X pins σ Q u s' := by
  obtain ⟨v, H', os, bare, un, hok, r, q⟩ := h
  obtain ⟨hh, g, d, t, os'⟩ := s'
  obtain rfl : os' = s.os := os
  exact ⟨v, H', I.call (h' := hh) (g' := g) (d' := d) (t' := t) (ch := []) un hok bare (fun b z => absurd z (by simp)), r, q⟩
end

/-! ### calls -/
/-- f(..): the written arguments, then the defaults dvs; E: what is wanted of an exception -/
def tCall (sp : Sp) (dvs : List V) (E : XK) (t : TA) : TE := fun σ H Q => t σ H fun vs H1 => sp (vs ++ dvs) H1 Q E

/-- how the parameters are bound: us the positional arguments, kw the keywords' values by name, ds the defaults that fill up -/
def Binds (K : PySem.W.Frag) (fd : FuncData) (ps : List Str) (ds : List Value) : Prop :=
  ∀ (s : Shared) (us : List Value), K.In s.heap → (us ++ ds).length = ps.length → BindsTo s fd ⟨us, []⟩ (ps.zip (us ++ ds))
/-- every parameter is given -/
theorem Binds.all {K : PySem.W.Frag} {fd : FuncData} {ps : List Str} (h : ∀ us : List Value, us.length = ps.length → bindArgs fd ⟨us, []⟩ = pure (ps.zip us)) : Binds K fd ps [] := fun s us _ hl => by
  rw [List.append_nil] at hl ⊢
  exact .of_eq (h us hl)

/-- an exception of a callee reaches what this body wants of exceptions -/
def Passes (CX : CXT) (X : Cx) (E : XK) : Prop := ∀ (pins : List (Addr × Obj)) (σ : St) (H : Hp) (s : Shared) (e : Value) (s' : Shared), Inv X pins σ H s → CX X.stack H s E e s' → X.xe e s'

section
variable {X : Cx} {CX : CXT} {k : Nat} {f C : Addr} {fd : FuncData} {ps : List Str} {sp : Sp} {dvs : List V} {ds : List Value} {E : XK} {x m : Str} {p pos apos : Pos} {e o : Expr} {es : List Expr} {ta : TE} {t : TA}

/-- the callee runs -/
theorem run_fn {pins : List (Addr × Obj)} {σ : St} {H : Hp} {s : Shared} {Q : VK} {us : List Value} {vs : List V} (F : FnOk X.prog X.w X.K X.mg X.base CX k f fd ps sp) (hr : Room k X.A) (hb : Binds X.K fd ps ds) (hd : Vals dvs ds) (hx : Passes CX X E)
    (I : Inv X pins σ H s) (r : Vals vs us) (h : sp (vs ++ dvs) H Q E) : wpAny (model X.prog X.w) X.A (call (.ref f) us) (EP X pins σ Q) X.xe s := by
  have r2 : Vals (vs ++ dvs) (us ++ ds) := r.append hd
  have hl : (us ++ ds).length = ps.length := by rw [← r2.length]; exact F.len _ _ _ _ h
  refine wpAny_call (codeAny_mono (F.run X.A X.stack s H ⟨us, []⟩ (us ++ ds) (vs ++ dvs) Q E hr I.env0 (hb s us I.kIn hl) r2 h) fun r s' hq => ?_)
  cases r with
  | error e => exact hx pins σ H s e s' I hq
  | ok fl =>
    cases fl with
    | ret u => exact I.after hq
    | next => exact False.elim hq
    | brk => exact False.elim hq
    | cont => exact False.elim hq

theorem pe_call (F : FnOk X.prog X.w X.K X.mg X.base CX k f fd ps sp) (hr : Room k X.A) (hg : Gl X x) (hm : X.mg x = some (.ref f)) (hk : PySem.W.keepIn X.K (.ref f) = true) (hb : Binds X.K fd ps ds) (hd : Vals dvs ds) (hx : Passes CX X E)
    (ha : PA X (e :: es) t) (hdb : (x == ("__debug__" : Str)) = false := by decide) (he : starEach (e :: es) X.env = (false, eval e X.env) :: starEach es X.env := by rfl) (hpl : (backTo pos (starEach es X.env)).any (·.1) = false := by rfl) :
    PE X (.Call (.Name x p) (e :: es) [] pos) (tCall sp dvs E t) := by
  intro pins s σ H Q I h
  refine wpAny_Call_Name_kw (ld_glob I hg hm ?_ hdb)
  refine PySem.W.callWith_K (h₀ := X.base) I.ok.mod.kin hk (thn (ha pos pins s σ H _ I h) fun us s1 ⟨vs, H1, I1, r, q⟩ => ⟨I1.kIn, ?_⟩) he hpl
  exact run_fn F hr hb hd hx I1 r q



end

/-! ### keywords -/
section
variable {X : Cx} {CX : CXT} {k : Nat} {f C : Addr} {fd : FuncData} {ps ks : List Str} {sp : Sp} {E : XK} {x m : Str} {p pos apos kpos : Pos} {e o : Expr} {es : List Expr} {kws : List Keyword} {te ta : TE} {t tk : TA} {nm : Option Str}

variable {g : List Value → List Value → List Value} {gV : List V → List V → List V}
end

/-! ### a def's body keeps its promise -/
/-- names: the parameters first -/
structure FnScope (N P : List Str) (sc : Scope) : Prop where
  kind : sc.kind = .function
  co : sc.isCoroutine = false
  gen : sc.isGenerator = false
  nd : N.Nodup
  pre : N.take P.length = P
  par : ∀ x ∈ P, sc.names.lookup x = some .local ∨ sc.names.lookup x = some .cell
  nofree : ∀ y ∈ sc.names, y.2 ≠ .free

theorem bindL_out {kindOf : Str → Option NameKind} {x : Str} : ∀ {binds : List (Str × Value)} {m : Str → Option Value}, (∀ v, (x, v) ∉ binds) → bindL kindOf binds m x = m x
  | [], _, _ => rfl
  | (n, v) :: r, m, h => by
    unfold bindL
    rw [bindL_out fun w hw => h w (List.mem_cons_of_mem _ hw)]
    split
    · have : x ≠ n := by rintro rfl; exact h v List.mem_cons_self
      simp [this]
    · rfl
theorem bindC_out {kindOf : Str → Option NameKind} {x : Str} : ∀ {binds : List (Str × Value)} {m : Str → Option Value}, (∀ v, (x, v) ∉ binds) → bindC kindOf binds m x = m x
  | [], _, _ => rfl
  | (n, v) :: r, m, h => by
    unfold bindC
    rw [bindC_out fun w hw => h w (List.mem_cons_of_mem _ hw)]
    split
    · rfl
    · have : x ≠ n := by rintro rfl; exact h v List.mem_cons_self
      simp [this]
theorem bindL_get {kindOf : Str → Option NameKind} {x : Str} {v : Value} : ∀ {P : List Str} {vs : List Value} {i : Nat} {m : Str → Option Value}, P.Nodup → P[i]? = some x → vs[i]? = some v → kindOf x = some .local →
    bindL kindOf (P.zip vs) m x = some v
  | [], _, _, _, _, h, _, _ => by simp at h
  | _ :: _, [], _, _, _, _, h, _ => by simp at h
  | p :: P, w :: vs, 0, m, nd, h1, h2, hk => by
    simp at h1 h2; subst h1; subst h2
    show bindL kindOf ((p, w) :: P.zip vs) m p = _
    unfold bindL
    rw [bindL_out fun v hv => (List.nodup_cons.mp nd).1 (List.of_mem_zip hv).1, if_pos hk]
    simp
  | p :: P, w :: vs, i + 1, m, nd, h1, h2, hk => by
    show bindL kindOf ((p, w) :: P.zip vs) m x = _
    unfold bindL
    exact bindL_get (i := i) (List.nodup_cons.mp nd).2 (by simpa using h1) (by simpa using h2) hk
theorem bindC_get {kindOf : Str → Option NameKind} {x : Str} {v : Value} : ∀ {P : List Str} {vs : List Value} {i : Nat} {m : Str → Option Value}, P.Nodup → P[i]? = some x → vs[i]? = some v → kindOf x ≠ some .local →
    bindC kindOf (P.zip vs) m x = some v
  | [], _, _, _, _, h, _, _ => by simp at h
  | _ :: _, [], _, _, _, _, h, _ => by simp at h
  | p :: P, w :: vs, 0, m, nd, h1, h2, hk => by
    simp at h1 h2; subst h1; subst h2
    show bindC kindOf ((p, w) :: P.zip vs) m p = _
    unfold bindC
    rw [bindC_out fun v hv => (List.nodup_cons.mp nd).1 (List.of_mem_zip hv).1, if_neg hk]
    simp
  | p :: P, w :: vs, i + 1, m, nd, h1, h2, hk => by
    show bindC kindOf ((p, w) :: P.zip vs) m x = _
    unfold bindC
    exact bindC_get (i := i) (List.nodup_cons.mp nd).2 (by simpa using h1) (by simpa using h2) hk

/-- the names' values at the entry -/
def start (N : List Str) (vs : List V) : St := vs.map some ++ List.replicate (N.length - vs.length) none

/-- the context of a def's body, at its entry; an exception leaves the frame, then lies as CX says -/
def cxOf (CX : CXT) (P : Program) (w : World) (K : PySem.W.Frag) (mg : Str → Option Value) (base : Heap) (N : List Str) (qual : Str) (scope : Scope) (f : Addr) (cd : Value) (A : Around) (outer : List Env) (s : Shared) (H : Hp) (E : XK) : Cx where
  prog := P
  w := w
  K := K
  mg := mg
  base := base
  A := A.deeper (envOfC qual scope s.heap.objs.size f cd)
  N := N
  s₀ := s
  H₀ := H
  env := envOfC qual scope s.heap.objs.size f cd
  outer := outer
  stack := envOfC qual scope s.heap.objs.size f cd :: outer
  ex := []
  calm := true
  fn := fun _ => true
  pn := []
  xe := fun e s' => wpAny (model P w) (A.deeper (envOfC qual scope s.heap.objs.size f cd)) (leaving (envOfC qual scope s.heap.objs.size f cd) e) (fun _ s'' => CX outer H s E e s'') (fun e' s'' => CX outer H s E e' s'') s'

theorem cell_has {sc : Scope} {n : Nat} {x : Str} (h : sc.names.lookup x = some .cell) : ∃ c, (cellsFrom n sc.names []).lookup x = some c := by
  have q := PySem.W.cellsFrom_some sc.names n [] (.inl h)
  exact Option.isSome_iff_exists.mp q

theorem inv_start {CX : CXT} {P : Program} {w : World} {K : PySem.W.Frag} {mg : Str → Option Value} {base : Heap} {N ps : List Str} {qual : Str} {scope : Scope} {f : Addr} {cd : Value} {A : Around} {outer : List Env} {s s1 : Shared} {H : Hp} {E : XK} {us : List Value} {vs : List V}
    (S : FnScope N ps scope) (hd : A.handled = none) (e0 : Env0 P w K mg base A outer s H) (hl : vs.length = ps.length) (r : Vals vs us)
    (x : InCallC s s.heap.objs.size (bindL (envOfC qual scope s.heap.objs.size f cd).kindOf (ps.zip us) fun _ => none) (cellsFrom (s.heap.objs.size + 1) scope.names []) (bindC (envOfC qual scope s.heap.objs.size f cd).kindOf (ps.zip us) fun _ => none) s1) :
    Inv (cxOf CX P w K mg base N qual scope f cd A outer s H E) [] (start N vs) H s1 := by
  have hpl : ps.length ≤ N.length := by have := congrArg List.length S.pre; rw [List.length_take] at this; omega
  obtain ⟨h1, tk, rfl, hk⟩ := x.done
  have noA : ∀ b : Addr, b ∉ (cxOf CX P w K mg base N qual scope f cd A outer s H E).ex := fun b z => absurd (show b ∈ ([] : List Addr) from z) (by simp)
  refine ⟨⟨e0.mod, S.kind, rfl, rfl, Nat.le_refl _, fun y z c h1 h2 => ?_, fun y hy => ?_, fun y c _ h => ?_, fun _ => hd, Around.frames_deeper e0.frames, .inr ⟨rfl, rfl⟩, fun b z => absurd z (noA b), e0.bs, e0.bsz, fun b _ _ => noA b, fun b z => absurd z (noA b), e0.funs, e0.frf⟩,
    rfl, e0.bare, Un.kept hk, ⟨_, x.toInCall.ns, fun i y v h1 h2 h3 => ?_⟩, fun y c h => ⟨_, x.cell y c h⟩, e0.hok.fresh (Nat.le_refl _), fun y c h => ?_, fun p hp => absurd (show p ∈ ([] : List (Addr × Obj)) from hp) (by simp), e0.hok.kept hk, ?_⟩
  · exact name_of_addr x.apart (PySem.mem_of_lookup h1) (PySem.mem_of_lookup h2)
  · have hy : scope.names.lookup y = some .cell ∨ scope.names.lookup y = some .free := hy
    rcases hy with hy | hy
    · exact cell_has hy
    · exact absurd rfl (S.nofree _ (PySem.mem_of_lookup hy))
  · exact Nat.le_of_lt (x.above y c (PySem.mem_of_lookup h))
  · have hi : i < vs.length := by
      unfold start at h2
      by_cases hi : i < vs.length
      · exact hi
      · rw [List.getElem?_append_right (by simpa using hi)] at h2
        rw [List.getElem?_replicate] at h2
        split at h2 <;> cases h2
    have ha : vs[i]? = some v := by
      unfold start at h2
      rw [List.getElem?_append_left (by simpa using hi), List.getElem?_map] at h2
      cases e : vs[i]? with
      | none => rw [e] at h2; cases h2
      | some a => rw [e] at h2; cases h2; rfl
    obtain ⟨u, hu, rv⟩ := r.get ha
    have hp : ps[i]? = some y := by
      rw [← S.pre, List.getElem?_take_of_lt (by omega)]; exact h1
    have ndP : ps.Nodup := by rw [← S.pre]; exact S.nd.sublist (List.take_sublist _ _)
    refine ⟨u, rv, ?_⟩
    rcases S.par y (List.mem_of_getElem? hp) with k | k
    · exact .inl ⟨k, bindL_get ndP hp hu k⟩
    · obtain ⟨c, e⟩ := cell_has (n := s.heap.objs.size + 1) k
      refine .inr ⟨.inl k, c, e, ?_⟩
      have q := x.cell y c e
      rw [bindC_get ndP hp hu (by show scope.names.lookup y ≠ _; rw [k]; decide)] at q
      exact q
  · exact e0.hok.fresh (Nat.le_of_lt (x.above y c (PySem.mem_of_lookup h)))
  · unfold start
    show _ = N.length
    rw [List.length_append, List.length_map, List.length_replicate]
    omega

/-- THE RULE: a def (or a method) of the text, by its body. The body's reading t is chosen for each entry; it is run at the parameters' values -/
theorem fn_of {CX : CXT} {P : Program} {w : World} {K : PySem.W.Frag} {mg : Str → Option Value} {base : Heap} {k : Nat} {f : Addr} {name qual : Str} {params : Arguments} {body : List Stmt} {scope : Scope} {dV kV doc pm cdv ct oc : Value} {an od : Option Addr}
    {osl : Array (Option Value)} {N ps : List Str} {sp : Sp} (lk : K.lookup f = some ⟨oc, od, .func (PySem.W.fnOf name qual params body scope dV kV doc pm an cdv ct), osl⟩) (hcd : PySem.W.codeIn K cdv qual = true) (S : FnScope N ps scope)
    (len : ∀ vs H Q E, sp vs H Q E → vs.length = ps.length)
    (hbody : ∀ (A : Around) (outer : List Env) (s : Shared) (H : Hp) (vs : List V) (Q : VK) (E : XK), Room k (A.deeper (envOfC qual scope s.heap.objs.size f cdv)) → sp vs H Q E →
      ∃ t, PSs (cxOf CX P w K mg base N qual scope f cdv A outer s H E) body t ∧ t { nx := fun _ H' => Q .non H', rt := Q } (start N vs) H) :
    FnOk P w K mg base CX (k + 1) f (PySem.W.fnOf name qual params body scope dV kV doc pm an cdv ct) ps sp := by
  refine ⟨len, fun A outer s H args us vs Q E hr e0 hb r hsp => ?_⟩
  have hl := len _ _ _ _ hsp
  have KX : K.In s.heap := e0.mod.kin.keeps fun b o e => (e0.bs b o e).1
  have lim : s.heap.NoLimit := e0.mod.nolimit.keeps fun b o e => (e0.bs b o e).1
  have hkind : ∀ y ∈ ps.zip us, scope.names.lookup y.1 = some .local ∨ (scope.names.lookup y.1 = some .cell ∧ ((cellsFrom (s.heap.objs.size + 1) scope.names []).lookup y.1).isSome = true) := fun ⟨n, v⟩ hy => by
    rcases S.par n (List.of_mem_zip hy).1 with q | q
    · exact .inl q
    · exact .inr ⟨q, PySem.W.cellsFrom_some _ _ _ (.inl q)⟩
  refine codeAny_call_function hr.depth (KX _ _ lk) rfl S.co S.gen rfl (PySem.W.codeRec_of KX hcd) (hb _ _ _ _ ?_)
  refine wpAny_newFunctionEnv_cells S.kind hkind fun env he s1 x => ?_
  subst he
  refine ⟨lim.keeps x.toInCall.keep, codeAny_func ?_⟩
  obtain ⟨t, ht, hq⟩ := hbody A outer s H vs Q E (hr.deeper _) hsp
  have I : Inv (cxOf CX P w K mg base N qual scope f cdv A outer s H E) [] (start N vs) H s1 := inv_start S hr.hd e0 hl r x
  refine wpAny_mono (ht [] s1 (start N vs) H _ I hq) (fun fl s' hs => ?_) fun e s' hs => hs
  have fin : ∀ {σ' : St} {H' : Hp} {v : V} {u : Value}, Inv (cxOf CX P w K mg base N qual scope f cdv A outer s H E) [] σ' H' s' → RelV v u → Q v H' → CE outer P w H s Q u s' :=
    fun {σ' H' v u} J rv q => ⟨v, H', J.os, J.bare, J.base, J.hok, rv, q⟩
  cases fl with
  | ret u =>
    obtain ⟨v, σ', H', J, rv, q⟩ := hs
    exact fin J rv q
  | next =>
    obtain ⟨σ', H', J, q⟩ := hs
    exact fin (v := V.non) (u := Value.none) J rfl q
  | brk =>
    obtain ⟨_, _, _, q⟩ := hs
    exact False.elim q
  | cont =>
    obtain ⟨_, _, _, q⟩ := hs
    exact False.elim q
end L2

namespace L2
open PySem PySem.Spec PyProof.Rows
section
variable {X : Cx} {x : Str} {p pos : Pos} {e : Expr} {es : List Expr} {t : TA} {id T : String} {r : List V → Hp → VK → Prop}

def tCB (r : List V → Hp → VK → Prop) (t : TA) : TE := fun σ H Q => t σ H fun vs H1 => r vs H1 Q
/-- f(e, ..), f a built-in function -/
theorem pe_callB (hc : CallR X (.builtin id) r) (hg : Gl X x) (hm : X.mg x = none) (hv : bootBuiltins x = some (.builtin id)) (ha : PA X (e :: es) t) (hn : x ≠ "__name__" := by decide) (hdb : (x == ("__debug__" : Str)) = false := by decide)
    (he : starEach (e :: es) X.env = (false, eval e X.env) :: starEach es X.env := by rfl) (hpl : (backTo pos (starEach es X.env)).any (·.1) = false := by rfl) : PE X (.Call (.Name x p) (e :: es) [] pos) (tCB r t) := by
  intro pins s σ H Q I h
  refine wpAny_Call_Name_kw (ld_blt I hg hm hv ?_ hn hdb)
  exact PyProof.Rows.callWith_builtin1 (thn (ha pos pins s σ H _ I h) fun us s1 ⟨vs, H1, I1, r1, q1⟩ => hc pins s1 σ H1 vs us Q I1 r1 q1) he hpl
/-- T(e, ..), T a built-in type -/
theorem pe_callTy (hc : CallR X (.type T) r) (hg : Gl X x) (hm : X.mg x = none) (hv : bootBuiltins x = some (.type T)) (ha : PA X (e :: es) t) (hn : x ≠ "__name__" := by decide) (hdb : (x == ("__debug__" : Str)) = false := by decide)
    (he : starEach (e :: es) X.env = (false, eval e X.env) :: starEach es X.env := by rfl) (hpl : (backTo pos (starEach es X.env)).any (·.1) = false := by rfl) : PE X (.Call (.Name x p) (e :: es) [] pos) (tCB r t) := by
  intro pins s σ H Q I h
  refine wpAny_Call_Name_kw (ld_blt I hg hm hv ?_ hn hdb)
  exact PyProof.Rows.callWith_type1 (thn (ha pos pins s σ H _ I h) fun us s1 ⟨vs, H1, I1, r1, q1⟩ => hc pins s1 σ H1 vs us Q I1 r1 q1) he hpl
end
end L2

namespace HT
open PySem PyProof.Rows



section
open PySem.SeqAt
open PySem.AutoSeq1 (wpAny_loadPart')
open PySem.MeetsSeq PySem.MeetsSeq2 PySem.MeetsSeq3

end

section
variable {prog : Program} {w : World} {A : Around} {E : Value → Shared → Prop} {s : Shared}


/-- t + u, t not empty -/
theorem cat_tup {t b : Addr} {vs ws : List Value} {Q : Value → Shared → Prop} (ht : IsTup s.heap t vs.toArray) (hb : IsTup s.heap b ws.toArray) (hv : vs ≠ [])
    (h1 : ws = [] → Q (.ref t) s) (h2 : ws ≠ [] → Q (.ref s.heap.objs.size) { s with heap := s.heap.push { cls := .type "tuple", data := .seq (vs ++ ws).toArray } })
    (hsz : vs.length + ws.length ≤ sizeLine) : wpAny (model prog w) A (binaryOp .Add (.ref t) (.ref b)) Q E s := by
  obtain ⟨⟨cls, dd, data, sl⟩, ho, hc, n, hd⟩ := id ht
  obtain ⟨⟨cls2, dd2, data2, sl2⟩, ho2, hc2, n2, hd2⟩ := id hb
  simp only at hc hd hc2 hd2
  subst hc hd hc2 hd2
  have e : vs.toArray ++ ws.toArray = (vs ++ ws).toArray := by simp
  by_cases hw : ws = []
  · exact concat_meets ⟨_, ho, rfl⟩ ⟨_, ho2, rfl⟩ noFill_tuple_add seq_tuple_add PySem.F.slot_tuple_add PySem.F.entry_tuple_add (PySem.F.args_tuple_add_2 _ _)
      (tuple_addW1 t b vs.toArray ws.toArray n n2 dd dd2 sl sl2 (by simpa using hv) (by simp [hw])) ⟨ho, ho2, h1 hw⟩
  · refine concat_meets ⟨_, ho, rfl⟩ ⟨_, ho2, rfl⟩ noFill_tuple_add seq_tuple_add PySem.F.slot_tuple_add PySem.F.entry_tuple_add (PySem.F.args_tuple_add_2 _ _)
      (tuple_addW2 t b vs.toArray ws.toArray n n2 dd dd2 sl sl2 (by simpa using hv) (by simpa using hw) (by rw [List.size_toArray, List.size_toArray]; exact hsz)) ⟨ho, ho2, ?_⟩
    rw [e]
    exact h2 hw

/-! ### t[a:b], not the whole -/
/-- a slice's bound as a place among n (d where it is left out) -/
def sIx (n d : Nat) : Option Int → Nat
  | none => d
  | some v => if v < 0 then (v + (n : Int)).toNat else min v.toNat n
theorem sIx_none (n d : Nat) : sIx n d none = d := rfl
theorem sIx_nat (n d k : Nat) : sIx n d (some (k : Int)) = min k n := by
  show (if (k : Int) < 0 then ((k : Int) + (n : Int)).toNat else min (k : Int).toNat n) = min k n
  rw [if_neg (by omega), Int.toNat_natCast]
theorem sIx_le (n d : Nat) (hd : d ≤ n) (o : Option Int) : sIx n d o ≤ n := by
  cases o with
  | none => exact hd
  | some v =>
    show (if v < 0 then (v + (n : Int)).toNat else min v.toNat n) ≤ n
    by_cases hv : v < 0
    · rw [if_pos hv]; omega
    · rw [if_neg hv]; exact Nat.min_le_right _ _
theorem clip_eq (v : Int) (n d : Nat) : (if v < 0 then max (v + (n : Int)) 0 else min v (n : Int)) = ((sIx n d (some v) : Nat) : Int) := by
  show (if v < 0 then max (v + (n : Int)) 0 else min v (n : Int)) = (((if v < 0 then (v + (n : Int)).toNat else min v.toNat n) : Nat) : Int)
  by_cases hv : v < 0
  · simp only [if_pos hv]; omega
  · simp only [if_neg hv]; omega
theorem adjust_gen (lo hi : Option Int) (n : Nat) : Builtin.Slice.sliceAdjust lo hi 1 (n : Int) = (((sIx n 0 lo : Nat) : Int), ((sIx n n hi : Nat) : Int)) := by
  have h1 : ¬ ((1 : Int) < 0) := by omega
  unfold Builtin.Slice.sliceAdjust
  simp only [h1, if_false]
  refine Prod.ext ?_ ?_
  · cases lo with
    | none => rfl
    | some v => exact clip_eq v n 0
  · cases hi with
    | none => rfl
    | some v => exact clip_eq v n n
theorem places_gen (i j : Nat) : Builtin.Slice.slicePlaces (i : Int) (j : Int) 1 = j - i := by
  unfold Builtin.Slice.slicePlaces
  have h1 : (1 : Int) > 0 := by omega
  simp only [h1, if_true, Int.ediv_one]
  split <;> omega
theorem slicePart_ {v : Value} {o : Option Int} {Q : Option Int → Shared → Prop} (p : IsPart v o) (h : Q o s) : wpAny (model prog w) A (Builtin.Slice.slicePartIndex v) Q E s := by
  cases p with
  | none => exact slicePart_none h
  | int i t => exact slicePart_int h
theorem sliceApplied_gen {sl : Addr} {vl vu : Value} {lo hi : Option Int} {n : Nat} {Q : Int × Int × Nat → Shared → Prop} (hs : s.heap.IsSliceOf sl vl vu .none) (pl : IsPart vl lo) (pu : IsPart vu hi)
    (h : Q (((sIx n 0 lo : Nat) : Int), 1, sIx n n hi - sIx n 0 lo) s) : wpAny (model prog w) A (Builtin.Slice.sliceApplied (.ref sl) (pure (n : Int))) Q E s := by
  obtain ⟨os, hos, hcs, hds⟩ := id hs
  unfold Builtin.Slice.sliceApplied Builtin.Slice.sliceFields
  refine wpAny_bind (wpAny_bind (wpAny_field hos hds (x := vl) rfl (wpAny_bind (wpAny_field hos hds (x := vu) rfl (wpAny_bind (wpAny_field hos hds (x := .none) rfl (wpAny_pure ?_)))))))
  refine wpAny_bind (slicePart_none ?_)
  show wpAny _ _ (if ((1 : Int) == 0) = true then _ else _) _ _ s
  rw [if_neg (by decide)]
  refine wpAny_bind (slicePart_ pl (wpAny_bind (slicePart_ pu (wpAny_bind (wpAny_pure ?_)))))
  show wpAny _ _ (match Builtin.Slice.sliceAdjust lo hi 1 (n : Int) with | (lo, hi) => pure (lo, (1 : Int), Builtin.Slice.slicePlaces lo hi 1)) _ _ s
  rw [adjust_gen lo hi n]
  show wpAny _ _ (pure (((sIx n 0 lo : Nat) : Int), (1 : Int), Builtin.Slice.slicePlaces ((sIx n 0 lo : Nat) : Int) ((sIx n n hi : Nat) : Int) 1)) _ _ s
  rw [places_gen]
  exact wpAny_pure h
theorem pick_gen (xs : Array Value) (i k : Nat) : ((List.range k).filterMap fun (m : Nat) => xs[((i : Int) + (m : Int) * 1).toNat]?).toArray = ((xs.toList.drop i).take k).toArray := by
  have e : (fun (m : Nat) => xs[((i : Int) + (m : Int) * 1).toNat]?) = fun m => xs[i + m]? := by
    funext m
    have : ((i : Int) + (m : Int) * 1).toNat = i + m := by omega
    rw [this]
  rw [e]
  have := pick_run xs i k
  rw [List.filterMap_map] at this
  have e2 : ((fun x => xs[x]?) ∘ fun x => i + x) = fun m => xs[i + m]? := rfl
  rw [e2] at this
  rw [this]

theorem getItem_tuple_cut {t sl : Addr} {items : Array Value} {vl vu : Value} {lo hi : Option Int} {Q : Value → Shared → Prop} (ht : IsTup s.heap t items) (hs : s.heap.IsSliceOf sl vl vu .none) (pl : IsPart vl lo) (pu : IsPart vu hi)
    (hw : ¬ (sIx items.size 0 lo = 0 ∧ sIx items.size items.size hi = items.size))
    (h : Q (.ref s.heap.objs.size) { s with heap := s.heap.push { cls := .type "tuple", data := .seq ((items.toList.drop (sIx items.size 0 lo)).take (sIx items.size items.size hi - sIx items.size 0 lo)).toArray } })
    (hsz : items.size ≤ sizeLine) : wpAny (model prog w) A (getItem (.ref t) (.ref sl)) Q E s := by
  have htake : sizeOk (.seq ((items.toList.drop (sIx items.size 0 lo)).take (sIx items.size items.size hi - sIx items.size 0 lo)).toArray) := by
    show ((items.toList.drop (sIx items.size 0 lo)).take (sIx items.size items.size hi - sIx items.size 0 lo)).toArray.size ≤ sizeLine
    rw [List.size_toArray, List.length_take, List.length_drop, Array.length_toList]
    omega
  have hj : sIx items.size items.size hi ≤ items.size := sIx_le _ _ (Nat.le_refl _) hi
  obtain ⟨os, hos, hcs, hds⟩ := id hs
  have hTs : s.TypeIs (.ref sl) "slice" := ⟨os, hos, hcs⟩
  unfold getItem
  try with_reducible refine wpAny_holding ?_
  first | refine wpAny_bind (wpAny_pure ?_) | skip
  refine wpAny_bind (wpAny_sequenceKey ht.typeIs (by decide) ?_)
  refine wpAny_bind (wpAny_callSpecial?_slot (name := Str.ofString "__getitem__") ht.typeIs PyProof.Rows.slot_tuple_getitem
    (wpAny_call_entry PyProof.Rows.slot_tuple_getitem ht.typeIs entry_tuple_getitem ?_ (args_tuple_getitem _ _)))
  show wpAny _ _ (Builtin.Tuple.tupleItemsOf (.ref t) >>= _) _ _ s
  refine wpAny_bind (tupleItemsOf_ ht ?_)
  refine wpAny_bind (wpAny_typeOf hTs ?_)
  rw [if_pos (by decide)]
  refine wpAny_bind (sliceApplied_gen hs pl pu ?_)
  have hno : ¬ ((((sIx items.size 0 lo : Nat) : Int) == 0 && (1 : Int) == 1 && (sIx items.size items.size hi - sIx items.size 0 lo) == items.size) = true) := by
    intro q
    rw [Bool.and_eq_true, Bool.and_eq_true] at q
    have q1 : ((sIx items.size 0 lo : Nat) : Int) = 0 := eq_of_beq q.1.1
    have q2 : sIx items.size items.size hi - sIx items.size 0 lo = items.size := eq_of_beq q.2
    exact hw ⟨by omega, by omega⟩
  show wpAny _ _ (if (((sIx items.size 0 lo : Nat) : Int) == 0 && (1 : Int) == 1 && (sIx items.size items.size hi - sIx items.size 0 lo) == items.size) = true then _ else _) _ _ s
  rw [if_neg hno, pick_gen]
  first
    | exact wpAny_bind (m := Builtin.Tuple.tupleExact _) (wpAny_newObj_type (wpAny_pure ⟨_, rfl, wpAny_pure h⟩) htake)
    | exact wpAny_bind (m := Builtin.Tuple.tupleExact _) (wpAny_newObj_type (wpAny_bind (wpAny_pure (wpAny_pure ⟨_, rfl, wpAny_pure h⟩))) htake)
    | exact wpAny_bind (wpAny_bind (m := Builtin.Tuple.tupleExact _) (wpAny_newObj_type (wpAny_pure (wpAny_pure ⟨_, rfl, wpAny_pure h⟩)) htake))
    | exact wpAny_bind (wpAny_bind (m := Builtin.Tuple.tupleExact _) (wpAny_newObj_type (wpAny_pure ⟨_, rfl, wpAny_pure h⟩) htake))
end
end HT

namespace L2
open PySem PySem.Spec PyProof.Rows

/-! ### the parts of a slice -/
abbrev TO := St → Hp → (Option Int → Hp → Prop) → Prop
/-- a slice's part (left out, or an int) -/
def PO (X : Cx) (e : Option Expr) (t : TO) : Prop :=
  ∀ (pins : List (Addr × Obj)) (s : Shared) (σ : St) (H : Hp) (Q : Option Int → Hp → Prop), Inv X pins σ H s → t σ H Q →
    wpAny (model X.prog X.w) X.A (evalPart e X.env) (fun u s' => ∃ o H', Inv X pins σ H' s' ∧ IsPart u o ∧ Q o H') X.xe s
def tNoPart : TO := fun _ H Q => Q none H
def tPart (t : TE) : TO := fun σ H Q => t σ H fun x H1 => ∃ i, x = .int i ∧ Q (some i) H1


section
variable {X : Cx} {e : Expr} {te : TE} {lo hi : Option Expr} {tl th : TO} {pos p2 : Pos}

theorem po_none : PO X none tNoPart := by
  intro pins s σ H Q I h
  rw [evalPart_none]
  exact wpAny_pure ⟨none, H, I, .none, h⟩
theorem po_some (h : PE X e te) : PO X (some e) (tPart te) := by
  intro pins s σ H Q I hw
  rw [evalPart_some]
  refine thn (h pins s σ H _ I hw) fun u s1 ⟨x, H1, I1, r1, q1⟩ => ?_
  obtain ⟨i, rfl, q⟩ := q1
  obtain ⟨t, rfl⟩ := r1
  exact ⟨some i, H1, I1, .int i t, q⟩

/-- what a slice of a value is, by values: the slice object stands at sl -/
def SlR (X : Cx) (r : V → Option Int → Option Int → Hp → VK → Prop) : Prop :=
  ∀ (pins : List (Addr × Obj)) (s : Shared) (σ : St) (H : Hp) (x : V) (v vl vu : Value) (lo hi : Option Int) (sl : Addr) (Q : VK), Inv X pins σ H s → RelV x v → s.heap.IsSliceOf sl vl vu .none → IsPart vl lo → IsPart vu hi → r x lo hi H Q →
    ∃ T id, typeLookup (.type T) "__getitem__" = pure (some (.builtin id)) ∧ s.TypeIs v T ∧ wpAny (model X.prog X.w) X.A (getItem v (.ref sl)) (EP X pins σ Q) X.xe s
def tSl (r : V → Option Int → Option Int → Hp → VK → Prop) (te : TE) (tl th : TO) : TE := fun σ H Q => te σ H fun x H1 => tl σ H1 fun l H2 => th σ H2 fun u H3 => r x l u H3 Q
/-- a[lo:hi], any a -/
theorem pe_slice {r : V → Option Int → Option Int → Hp → VK → Prop} (hr : SlR X r) (he : PE X e te) (hl : PO X lo tl) (hu : PO X hi th) : PE X (.Subscript e (.Slice lo hi none p2) pos) (tSl r te tl th) := by
  intro pins s σ H Q I h
  refine Subscript_ (thn (he pins s σ H _ I h) fun v s1 ⟨x, H1, I1, r1, q1⟩ => ?_)
  refine wpAny_Slice (thn (hl pins s1 σ H1 _ I1 q1) fun vl s2 ⟨l, H2, I2, pl, q2⟩ => thn (hu pins s2 σ H2 _ I2 q2) fun vu s3 ⟨u, H3, I3, pu, q3⟩ => ?_)
  rw [evalPart_none]
  refine wpAny_pure ?_
  have I4 : Inv X pins σ H3 { s3 with heap := s3.heap.push { cls := .type "slice", data := .fields #[vl, vu, .none] } } := I3.kept (t' := s3.toks) fun b ob q => Heap.get?_push_of_some _ q
  obtain ⟨T, id, hT, ht, hg⟩ := hr pins { s3 with heap := s3.heap.push { cls := .type "slice", data := .fields #[vl, vu, .none] } } σ H3 x v vl vu l u s3.heap.objs.size Q I4 r1 (Heap.IsSliceOf.new ..) pl pu q3
  show wpAny (model X.prog X.w) X.A (subscriptTail e (.Slice lo hi none p2) v (.ref s3.heap.objs.size)) (EP X pins σ Q) X.xe { s3 with heap := s3.heap.push { cls := .type "slice", data := .fields #[vl, vu, .none] } }
  exact tail_any (ops := [.ref s3.heap.objs.size, v]) ht hT hg (by with_unfolding_all rfl)

/-- the items of xs[lo:hi] -/
def cutV (xs : List V) (lo hi : Option Int) : List V := (xs.drop (HT.sIx xs.length 0 lo)).take (HT.sIx xs.length xs.length hi - HT.sIx xs.length 0 lo)
theorem cutV_length (xs : List V) (lo hi : Option Int) : (cutV xs lo hi).length ≤ xs.length := by
  unfold cutV
  rw [List.length_take, List.length_drop]
  omega
/-- t[lo:hi], not the whole of it (the whole would be t itself) -/
def rSlT (K : PySem.W.Frag) : V → Option Int → Option Int → Hp → VK → Prop := fun x lo hi H Q => ∃ a xs, x = .ref a ∧ SqT K H a xs ∧
  ¬ (HT.sIx xs.length 0 lo = 0 ∧ HT.sIx xs.length xs.length hi = xs.length) ∧ ∀ p, H p = none → Q (.ref p) (upd H p (.tup (cutV xs lo hi)))
theorem sl_tup : SlR X (rSlT X.K) := by
  intro pins s σ H x v vl vu lo hi sl Q I rx hs pl pu h
  obtain ⟨a, xs, rfl, hx, hw, q⟩ := h
  cases rx
  obtain ⟨its, r, ht, hz⟩ := I.tuple hx
  have hlen : its.toArray.size = xs.length := by rw [List.size_toArray]; exact r.length.symm
  refine ⟨"tuple", _, PyProof.Rows.slot_tuple_getitem.lookup, ht.typeIs, ?_⟩
  refine HT.getItem_tuple_cut ht hs pl pu (by rw [hlen]; exact hw) ?_ (by rw [hlen]; exact hz)
  rw [hlen]
  refine ⟨.ref s.heap.objs.size, _, I.laid (t' := s.toks) (o := .tup (cutV xs lo hi)) (fun b ob q => Heap.get?_push_of_some _ q) (Nat.le_refl _) ?_, rfl, q _ (I.hok.fresh (Nat.le_refl _))⟩
  exact ⟨Nat.le_trans (cutV_length xs lo hi) hz, _, (r.drop (HT.sIx xs.length 0 lo)).take (HT.sIx xs.length xs.length hi - HT.sIx xs.length 0 lo), IsTup.new _ _⟩

/-! ### t < u, t + u -/
/-- t + u, t not empty: u empty gives t itself -/
def rCatT (K : PySem.W.Frag) : R2 := fun x y H Q => ∃ a b xs ys, x = .ref a ∧ y = .ref b ∧ SqT K H a xs ∧ SqT K H b ys ∧ xs ≠ [] ∧ xs.length + ys.length ≤ sizeLine ∧
  (ys = [] → Q (.ref a) H) ∧ (ys ≠ [] → ∀ p, H p = none → Q (.ref p) (upd H p (.tup (xs ++ ys))))
theorem Vals.nil_iff {xs : List V} {us : List Value} (r : Vals xs us) : us = [] ↔ xs = [] := by
  cases r with
  | nil => simp
  | cons _ _ => simp
theorem op_catT : OpR X (binaryOp .Add) (rCatT X.K) := by
  intro pins s σ H x y v u Q I rx ry h
  obtain ⟨a, b, xs, ys, rfl, rfl, ha, hb, hx, hz, q1, q2⟩ := h
  cases rx
  cases ry
  obtain ⟨its, r1, p1, _⟩ := I.tuple ha
  obtain ⟨its2, r2, p2, _⟩ := I.tuple hb
  refine HT.cat_tup p1 p2 (fun z => hx (r1.nil_iff.mp z)) (fun z => ⟨.ref a, H, I, rfl, q1 (r2.nil_iff.mp z)⟩) (fun z => ?_) (by rw [← r1.length, ← r2.length]; exact hz)
  refine ⟨.ref s.heap.objs.size, _, I.laid (t' := s.toks) (o := .tup (xs ++ ys)) (fun b ob q => Heap.get?_push_of_some _ q) (Nat.le_refl _) ?_, rfl, q2 (fun w => z (r2.nil_iff.mpr w)) _ (I.hok.fresh (Nat.le_refl _))⟩
  exact ⟨by rw [List.length_append]; exact hz, _, r1.append r2, IsTup.new _ _⟩
end
end L2

namespace L2
open PySem PySem.Spec PyProof.Rows

/-! ### places -/
/-- the place that an index of any sign means -/
def ixN (n : Nat) (i : Int) : Option Nat := if 0 ≤ i then (if i < n then some i.toNat else none) else if -(n : Int) ≤ i then some (i + n).toNat else none
def atI {α : Type} (xs : List α) (i : Int) : Option α := (ixN xs.length i).bind fun j => xs[j]?
theorem ixN_seq {n : Nat} {i : Int} {j : Nat} (h : ixN n i = some j) : seqIndex? i n = some j ∧ j < n ∧ -(n : Int) ≤ i ∧ i < n := by
  unfold ixN at h
  by_cases h0 : 0 ≤ i
  · rw [if_pos h0] at h
    by_cases h1 : i < n
    · rw [if_pos h1] at h
      have e : i.toNat = j := Option.some.inj h
      exact ⟨by rw [seqIndex_of h0 h1, e], by omega, by omega, h1⟩
    · rw [if_neg h1] at h; cases h
  · rw [if_neg h0] at h
    by_cases h1 : -(n : Int) ≤ i
    · rw [if_pos h1] at h
      have e : (i + n).toNat = j := Option.some.inj h
      exact ⟨by rw [seqIndex_neg (by omega) h1, e], by omega, h1, by omega⟩
    · rw [if_neg h1] at h; cases h
theorem atI_get {α : Type} {xs : List α} {i : Int} {v : α} (h : atI xs i = some v) : ∃ j, seqIndex? i xs.length = some j ∧ xs[j]? = some v ∧ j < xs.length ∧ -(xs.length : Int) ≤ i ∧ i < xs.length := by
  unfold atI at h
  cases e : ixN xs.length i with
  | none => rw [e] at h; cases h
  | some j =>
    rw [e] at h
    obtain ⟨h1, h2, h3, h4⟩ := ixN_seq e
    exact ⟨j, h1, h, h2, h3, h4⟩
theorem atI_nat {α : Type} {xs : List α} {j : Nat} {v : α} (h : xs[j]? = some v) : atI xs (j : Int) = some v := by
  have hj : j < xs.length := (List.getElem?_eq_some_iff.mp h).1
  have e : ixN xs.length (j : Int) = some j := by
    unfold ixN
    rw [if_pos (by omega), if_pos (by omega)]; simp
  unfold atI; rw [e]; exact h

/-! ### what may be subscripted -/
/-- what stands as an index of a plain subscript -/
def PlainIx (b : Expr) : Prop := ∀ o i, subscripted b false o i = operate [o, i] (getItem o i)
/-- a subscript by values -/
def IxR (X : Cx) (r : R2) : Prop :=
  ∀ (value slice : Expr) (pins : List (Addr × Obj)) (s : Shared) (σ : St) (H : Hp) (x y : V) (v u : Value) (Q : VK), Inv X pins σ H s → RelV x v → RelV y u → r x y H Q →
    subscripted slice false v u = operate [v, u] (getItem v u) → wpAny (model X.prog X.w) X.A (subscriptTail value slice v u) (EP X pins σ Q) X.xe s
/-- a call of a builtin's method by values: the receiver, the arguments -/
def MtR (X : Cx) (id : String) (r : V → List V → Hp → VK → Prop) : Prop :=
  ∀ (pins : List (Addr × Obj)) (s : Shared) (σ : St) (H : Hp) (x : V) (xs : List V) (v : Value) (us : List Value) (Q : VK), Inv X pins σ H s → RelV x v → Vals xs us → r x xs H Q →
    wpAny (model X.prog X.w) X.A (call (.builtin id) (v :: us)) (EP X pins σ Q) X.xe s
section
variable {X : Cx} {a b : Expr} {ta tb : TE} {pos : Pos}
/-- a[b] -/
theorem pe_ix {r : R2} (hr : IxR X r) (ha : PE X a ta) (hb : PE X b tb) (hs : PlainIx b) : PE X (.Subscript a b pos) (tOp r ta tb) := by
  intro pins s σ H Q I h
  exact Subscript_ (binT ha hb I h fun v u s2 x y H2 I2 rx ry q => hr a b pins s2 σ H2 x y v u Q I2 rx ry q (hs _ _))

def rIxL (K : PySem.W.Frag) : R2 := fun x y H Q => ∃ p xs i v, x = .ref p ∧ y = .int i ∧ SqL K H p xs ∧ atI xs i = some v ∧ Q v H
def rIxT (K : PySem.W.Frag) : R2 := fun x y H Q => ∃ p xs i v, x = .ref p ∧ y = .int i ∧ SqT K H p xs ∧ atI xs i = some v ∧ Q v H
def rIxS : R2 := fun x y H Q => ∃ z i c, x = .str z ∧ y = .int i ∧ z.length ≤ sizeLine ∧ atI z.cps.toList i = some c ∧ Q (.str ⟨#[c]⟩) H
theorem ix_list : IxR X (rIxL X.K) := by
  intro value slice pins s σ H x y v u Q I rx ry h hs
  obtain ⟨p, xs, i, z, rfl, rfl, hq, he, q⟩ := h
  cases rx
  obtain ⟨t, rfl⟩ := ry
  obtain ⟨its, r, pl, hz⟩ := I.list hq
  obtain ⟨j, h1, h2, h3, h4, h5⟩ := atI_get he
  obtain ⟨w, ew, rw'⟩ := r.get h2
  have hl := r.length
  have hn := line63
  have fin : EP X pins σ Q w s := ⟨z, H, I, rw', q⟩
  by_cases h0 : 0 ≤ i
  · have hj : i.toNat = j := by
      rw [seqIndex_of h0 h5] at h1
      exact Option.some.inj h1
    exact item_listR pl.isList h0 (by omega) (by rw [hj]; simpa using ew) fin hs
  · have hj : (i + (its.toArray.size : Int)).toNat = j := by
      rw [seqIndex_neg (by omega) h4] at h1
      rw [List.size_toArray, ← hl]
      exact Option.some.inj h1
    exact subscriptTail_builtinR (x := w) pl.isList.typeIs slot_list_getitem.lookup
      (wpAny_getItem_list_neg (Q := fun r s' => r = w ∧ EP X pins σ Q r s') pl.isList (by omega) (by rw [List.size_toArray] <;> omega) (by omega) (by rw [hj]; simpa using ew) ⟨rfl, fin⟩) hs
theorem ix_tup : IxR X (rIxT X.K) := by
  intro value slice pins s σ H x y v u Q I rx ry h hs
  obtain ⟨p, xs, i, z, rfl, rfl, hq, he, q⟩ := h
  cases rx
  obtain ⟨t, rfl⟩ := ry
  obtain ⟨its, r, pl, hz⟩ := I.tuple hq
  obtain ⟨j, h1, h2, h3, h4, h5⟩ := atI_get he
  obtain ⟨w, ew, rw'⟩ := r.get h2
  have hl := r.length
  have hn := line63
  have fin : EP X pins σ Q w s := ⟨z, H, I, rw', q⟩
  exact subscriptTail_builtinR (x := w) pl.typeIs slot_tuple_getitem.lookup
    (getItem_tuple (j := j) (Q := fun r s' => r = w ∧ EP X pins σ Q r s') pl (by omega) (by omega) (by rw [List.size_toArray, ← hl]; exact h1) (by simpa using ew) ⟨rfl, fin⟩) hs
theorem ix_str : IxR X rIxS := by
  intro value slice pins s σ H x y v u Q I rx ry h hs
  obtain ⟨z, i, c, rfl, rfl, hz, he, q⟩ := h
  obtain ⟨t, rfl⟩ := rx
  obtain ⟨t', rfl⟩ := ry
  obtain ⟨j, h1, h2, h3, h4, h5⟩ := atI_get he
  have hl : z.cps.toList.length = z.length := by simp [Str.length]
  rw [hl] at h1 h4 h5
  have hn := line63
  exact tail_any (typeIs_str s z t) slot_str_getitem.lookup (getItem_str (c := c) (by
    have e1 : decide (i < -(2 ^ 63 : Int)) = false := decide_eq_false (by omega)
    have e2 : decide (i ≥ 2 ^ 63) = false := decide_eq_false (by omega)
    rw [e1, e2, Bool.or_false]) (by rw [h1]; simpa using h2) ⟨.str ⟨#[c]⟩, H, I.tok _, ⟨_, rfl⟩, q⟩) hs

/-! ### xs[i] = v, any sign -/
/-- the list's object behind a store -/
theorem mapSeq_set (its : List Value) (n j : Nat) (u : Value) : Obj.mapSeq (·.setIfInBounds j u) { cls := .type "list", data := .seq its.toArray n } = { cls := .type "list", data := .seq (its.set j u).toArray n } := by
  simp [Obj.mapSeq]
theorem Inv.lst {pins : List (Addr × Obj)} {σ : St} {H : Hp} {s : Shared} {p : Addr} {xs : List V} (I : Inv X pins σ H s) (h : H p = some (.lst xs)) :
    ∃ (its : List Value) (n : Nat), Vals xs its ∧ s.heap.get? p = some { cls := .type "list", data := .seq its.toArray n } ∧ xs.length ≤ sizeLine := by
  obtain ⟨z, its, n, r, e⟩ := I.hok p _ h
  exact ⟨its, n, r, e, z⟩
/-- the list at p is written by an update of its object -/
theorem Inv.lstUpd {pins : List (Addr × Obj)} {σ : St} {H : Hp} {s : Shared} {p : Addr} {xs ys : List V} {its its' : List Value} {n n' : Nat} {f : Obj → Obj} (I : Inv X pins σ H s) (h : H p = some (.lst xs))
    (ho : s.heap.get? p = some { cls := .type "list", data := .seq its.toArray n }) (hf : f { cls := .type "list", data := .seq its.toArray n } = { cls := .type "list", data := .seq its'.toArray n' }) (r : Vals ys its') (hz : ys.length ≤ sizeLine) (t : Nat) :
    Inv X pins σ (upd H p (.lst ys)) { s with heap := s.heap.update p f, toks := t } := by
  have e : (s.heap.update p f).get? p = some { cls := .type "list", data := .seq its'.toArray n' } := by
    rw [Heap.get?_update_self f ho (by rw [hf] <;> rfl), hf]
  refine I.write (x := p) (e := p) (by rw [h]; trivial) (.inl rfl) (fun b u hb q => (Heap.get?_update_other _ _ (Ne.symm hb)).trans q) ⟨_, e⟩ ?_
  exact ⟨hz, its', n', r, e⟩
def rSetL : V → V → V → Hp → (Hp → Prop) → Prop := fun o i v H Q => ∃ p xs k j, o = .ref p ∧ i = .int k ∧ H p = some (.lst xs) ∧ ixN xs.length k = some j ∧ Q (upd H p (.lst (xs.set j v)))
theorem set_list : PSet X rSetL := by
  intro pins s σ H o i v ov iv u Q I ro ri rv h
  obtain ⟨p, xs, k, j, rfl, rfl, hp, hj, q⟩ := h
  cases ro
  obtain ⟨t, rfl⟩ := ri
  obtain ⟨its, n, r, ho, hz⟩ := I.lst hp
  obtain ⟨h1, h2, h3, h4⟩ := ixN_seq hj
  have hl := r.length
  have hn := line63
  have I' : Inv X pins σ (upd H p (.lst (xs.set j v))) { s with heap := s.heap.update p (Obj.mapSeq (·.setIfInBounds j u)) } :=
    I.lstUpd hp ho (mapSeq_set its n j u) (r.set rv j) (by rw [List.length_set]; exact hz) s.toks
  by_cases h0 : 0 ≤ k
  · have hk : k.toNat = j := by
      rw [seqIndex_of h0 h4] at h1
      exact Option.some.inj h1
    exact PySem.W.ki_setAt ho h0 (by omega) (by rw [List.size_toArray, ← hl]; exact h4) (by rw [hk]; exact ⟨_, I', q⟩)
  · have hk : (k + (its.toArray.size : Int)).toNat = j := by
      rw [seqIndex_neg (by omega) h3] at h1
      rw [List.size_toArray, ← hl]
      exact Option.some.inj h1
    exact PySem.W.ki_setBack ho (by omega) (by rw [List.size_toArray, ← hl]; exact h3) (by omega) (by rw [hk]; exact ⟨_, I', q⟩)

/-! ### slices -/
theorem slice_bounds (lo hi : Option Int) (n : Nat) : (sliceBounds lo hi none n).1 = ((HT.sIx n 0 lo : Nat) : Int) ∧ (sliceBounds lo hi none n).2.1 = ((HT.sIx n n hi : Nat) : Int) ∧ (sliceBounds lo hi none n).2.2 = 1 := by
  refine ⟨?_, ?_, rfl⟩
  · cases lo with
    | none => simp [sliceBounds, HT.sIx]
    | some i =>
      simp only [sliceBounds, HT.sIx, Option.getD_none, show (1 : Int) > 0 by decide, if_true]
      by_cases h : i < 0
      · simp only [h, if_true] <;> omega
      · simp only [h, if_false] <;> omega
  · cases hi with
    | none => simp [sliceBounds, HT.sIx]
    | some i =>
      simp only [sliceBounds, HT.sIx, Option.getD_none, show (1 : Int) > 0 by decide, if_true]
      by_cases h : i < 0
      · simp only [h, if_true] <;> omega
      · simp only [h, if_false] <;> omega
theorem slicePick_cut (its : List Value) (lo hi : Option Int) : slicePick its.toArray lo hi none = ((its.drop (HT.sIx its.length 0 lo)).take (HT.sIx its.length its.length hi - HT.sIx its.length 0 lo)).toArray := by
  obtain ⟨h1, h2, h3⟩ := slice_bounds lo hi its.toArray.size
  unfold slicePick
  rw [h1, h2, h3]
  simp only [sliceRange_one, pick_run, List.size_toArray] <;> rfl
/-- xs[lo:hi] of a list: a new list -/
def rSlL (K : PySem.W.Frag) : V → Option Int → Option Int → Hp → VK → Prop := fun x lo hi H Q => ∃ a xs, x = .ref a ∧ SqL K H a xs ∧ ∀ p, H p = none → Q (.ref p) (upd H p (.lst (cutV xs lo hi)))
theorem sl_list : SlR X (rSlL X.K) := by
  intro pins s σ H x v vl vu lo hi sl Q I rx hs pl pu h
  obtain ⟨a, xs, rfl, hx, q⟩ := h
  cases rx
  obtain ⟨its, r, ht, hz⟩ := I.list hx
  have hlen := r.length
  refine ⟨"list", _, slot_list_getitem.lookup, ht.isList.typeIs, ?_⟩
  refine wpAny_getItem_list_slice ht.isList hs pl pu .none (by simp) ?_ (by rw [List.size_toArray] <;> omega)
  rw [slicePick_cut, ← hlen]
  refine ⟨.ref s.heap.objs.size, _, I.laid (t' := s.toks) (o := .lst (cutV xs lo hi)) (fun b ob q => Heap.get?_push_of_some _ q) (Nat.le_refl _) ?_, rfl, q _ (I.hok.fresh (Nat.le_refl _))⟩
  exact ⟨Nat.le_trans (cutV_length xs lo hi) hz, _, 0, (r.drop (HT.sIx xs.length 0 lo)).take (HT.sIx xs.length xs.length hi - HT.sIx xs.length 0 lo), Heap.get?_push_size _ rfl⟩

/-! ### in, not in: flat items -/
def flatV : V → Bool
  | .non => true
  | .bl _ => true
  | .int _ => true
  | .str _ => true
  | _ => false
/-- == of flat values -/
def eqV : V → V → Bool
  | .non, .non => true
  | .bl a, .bl b => a == b
  | .bl a, .int b => (if a then 1 else 0) == b
  | .int a, .bl b => a == (if b then 1 else 0)
  | .int a, .int b => a == b
  | .str a, .str b => a == b
  | _, _ => false
theorem eqAt_V {A : Around} {s : Shared} {y x : V} {u v : Value} (ry : RelV y u) (rx : RelV x v) (fy : flatV y = true) (fx : flatV x = true) : SeqAt.EqAt A s u v (eqV y x) := by
  cases y with
  | non =>
    cases ry
    cases x with
    | non => cases rx; exact SeqAt.EqAt.same _
    | bl b => cases rx; exact SeqAt.EqAt.none_bool b
    | int b => obtain ⟨t, rfl⟩ := rx; exact SeqAt.EqAt.none_int b t
    | str b => obtain ⟨t, rfl⟩ := rx; exact SeqAt.EqAt.none_str b t
    | _ => exact absurd (show false = true from fx) Bool.false_ne_true
  | bl a =>
    cases ry
    cases x with
    | non => cases rx; exact SeqAt.EqAt.bool_none a
    | bl b => cases rx; exact SeqAt.EqAt.bool_bool a b
    | int b => obtain ⟨t, rfl⟩ := rx; exact SeqAt.EqAt.bool_int a b t
    | str b => obtain ⟨t, rfl⟩ := rx; exact SeqAt.EqAt.bool_str a b t
    | _ => exact absurd (show false = true from fx) Bool.false_ne_true
  | int a =>
    obtain ⟨t', rfl⟩ := ry
    cases x with
    | non => cases rx; exact SeqAt.EqAt.int_none a t'
    | bl b => cases rx; exact SeqAt.EqAt.int_bool a t' b
    | int b => obtain ⟨t, rfl⟩ := rx; exact SeqAt.EqAt.int_int a t' b t
    | str b => obtain ⟨t, rfl⟩ := rx; exact SeqAt.EqAt.int_str a t' b t
    | _ => exact absurd (show false = true from fx) Bool.false_ne_true
  | str a =>
    obtain ⟨t', rfl⟩ := ry
    cases x with
    | non => cases rx; exact SeqAt.EqAt.str_none a t'
    | bl b => cases rx; exact SeqAt.EqAt.str_bool a t' b
    | int b => obtain ⟨t, rfl⟩ := rx; exact SeqAt.EqAt.str_int a t' b t
    | str b => obtain ⟨t, rfl⟩ := rx; exact SeqAt.EqAt.str_str a t' b t
    | _ => exact absurd (show false = true from fx) Bool.false_ne_true
  | _ => exact absurd (show false = true from fy) Bool.false_ne_true
/-- the items' answers, read off the values (a value's own answer does not lean on its token) -/
def eqU (x : V) (u : Value) : Bool := match u with
  | .none => eqV .non x
  | .bool b => eqV (.bl b) x
  | .int i _ => eqV (.int i) x
  | .str z _ => eqV (.str z) x
  | _ => false
theorem eqU_of {x y : V} {u : Value} (r : RelV y u) (f : flatV y = true) : eqU x u = eqV y x := by
  cases y with
  | non => cases r; rfl
  | bl b => cases r; rfl
  | int i => obtain ⟨t, rfl⟩ := r; rfl
  | str z => obtain ⟨t, rfl⟩ := r; rfl
  | _ => exact absurd (show false = true from f) Bool.false_ne_true
theorem any_eqU {x : V} : ∀ {xs : List V} {us : List Value}, Vals xs us → xs.all flatV = true → us.any (eqU x) = xs.any fun y => eqV y x
  | _, _, .nil, _ => rfl
  | y :: xs, u :: us, .cons r t, f => by
    rw [List.all_cons, Bool.and_eq_true] at f
    rw [List.any_cons, List.any_cons, eqU_of r f.1, any_eqU t f.2]
theorem mem_eqAt {A : Around} {s : Shared} {x : V} {v : Value} (rx : RelV x v) (fx : flatV x = true) : ∀ {xs : List V} {us : List Value}, Vals xs us → xs.all flatV = true → ∀ u ∈ us, SeqAt.EqAt A s u v (eqU x u)
  | _, _, .nil, _ => fun u hu => by cases hu
  | y :: xs, u :: us, .cons r t, f => fun u' hu => by
    rw [List.all_cons, Bool.and_eq_true] at f
    rcases List.mem_cons.mp hu with rfl | hu
    · rw [eqU_of r f.1]; exact eqAt_V r rx f.1 fx
    · exact mem_eqAt rx fx t f.2 u' hu
def inV (x : V) (xs : List V) : Bool := xs.any fun y => eqV y x
/-- x in a list or tuple of flat items -/
def rIn (K : PySem.W.Frag) (neg : Bool) : R2 := fun x y H Q => ∃ p xs, y = .ref p ∧ (SqL K H p xs ∨ SqT K H p xs) ∧ flatV x = true ∧ xs.all flatV = true ∧ Q (.bl (if neg then !inV x xs else inV x xs)) H
theorem op_in_seq : OpR X (compareOp .In) (rIn X.K false) := by
  intro pins s σ H x y v u Q I rx ry h
  obtain ⟨p, xs, rfl, hq, fx, fs, q⟩ := h
  cases ry
  rcases hq with hq | hq
  · obtain ⟨its, r, pl, hz⟩ := I.list hq
    refine SeqAt.in_listAt (eqU x) pl.isList (fun w hw => mem_eqAt rx fx r fs w (by simpa using hw)) ⟨.bl _, H, I, rfl, ?_⟩
    rw [show its.toArray.any (eqU x) = its.any (eqU x) by simp, any_eqU r fs]
    exact q
  · obtain ⟨its, r, pl, hz⟩ := I.tuple hq
    refine SeqAt.in_tupleAt (eqU x) pl (fun w hw => mem_eqAt rx fx r fs w (by simpa using hw)) ⟨.bl _, H, I, rfl, ?_⟩
    rw [show its.toArray.any (eqU x) = its.any (eqU x) by simp, any_eqU r fs]
    exact q

/-! ### len, list(x), tuple(x) of any list or tuple that is read -/
theorem call_len_seq : CallR X (.builtin "len") (fun xs H Q => ∃ p ys, xs = [.ref p] ∧ (SqL X.K H p ys ∨ SqT X.K H p ys) ∧ Q (.int ys.length) H) := by
  intro pins s σ H xs us Q I r h
  obtain ⟨p, ys, rfl, hq, q⟩ := h
  obtain ⟨u, rfl, rx⟩ := vals1 r
  cases rx
  have hn := line63
  rcases hq with hq | hq
  · obtain ⟨its, r', pl, hz⟩ := I.list hq
    have hlen := r'.length
    exact Calls.call_len_list pl.isList (by simp only [List.size_toArray] <;> omega) ⟨.int ys.length, H, I.tok _, ⟨s.toks + 1, by rw [List.size_toArray, hlen]⟩, q⟩
  · obtain ⟨its, r', pl, hz⟩ := I.tuple hq
    have hlen := r'.length
    exact len_tuple pl (by simp only [List.size_toArray] <;> omega) ⟨.int ys.length, H, I.tok _, ⟨s.toks + 1, by rw [List.size_toArray, hlen]⟩, q⟩
theorem call_len_str : CallR X (.builtin "len") (fun xs H Q => ∃ z, xs = [.str z] ∧ z.length ≤ sizeLine ∧ Q (.int z.length) H) := by
  intro pins s σ H xs us Q I r h
  obtain ⟨z, rfl, hz, q⟩ := h
  obtain ⟨u, rfl, t, rfl⟩ := vals1 r
  have hn := line63
  exact len_str (by omega) ⟨.int z.length, H, I.tok _, ⟨_, rfl⟩, q⟩
theorem call_list_of : CallR X (.type "list") (fun xs H Q => ∃ p ys, xs = [.ref p] ∧ (SqL X.K H p ys ∨ SqT X.K H p ys) ∧ ∀ l, H l = none → Q (.ref l) (upd H l (.lst ys))) := by
  intro pins s σ H xs us Q I r h
  obtain ⟨p, ys, rfl, hq, q⟩ := h
  obtain ⟨u, rfl, rx⟩ := vals1 r
  cases rx
  have fin : ∀ (its : List Value), Vals ys its → ys.length ≤ sizeLine → ∀ (h' : Heap) (c' : Nat), (∀ b o', s.heap.get? b = some o' → h'.get? b = some o') →
      h'.get? s.heap.objs.size = some { cls := .type "list", dict := none, data := .seq its.toArray c', slots := #[] } → EP X pins σ Q (.ref s.heap.objs.size) { s with heap := h' } := fun its r' hz h' c' kp e =>
    ⟨.ref s.heap.objs.size, _, I.laid (t' := s.toks) kp (Nat.le_refl _) (show ObjOk X.prog X.w _ h' _ (.lst ys) from ⟨hz, its, c', r', e⟩), rfl, q _ (I.hok.fresh (Nat.le_refl _))⟩
  rcases hq with hq | hq
  · obtain ⟨its, r', pl, hz⟩ := I.list hq
    have hlen := r'.length
    obtain ⟨o, ho, hc, n, hd⟩ := pl.isList
    exact call_list_seq p (.inl rfl) ho hc hd (fun h' c' kp e => fin its r' hz h' c' kp e) (by simp only [List.size_toArray] <;> omega)
  · obtain ⟨its, r', pl, hz⟩ := I.tuple hq
    have hlen := r'.length
    obtain ⟨o, ho, hc, n, hd⟩ := pl
    exact call_list_seq p (.inr rfl) ho hc hd (fun h' c' kp e => fin its r' hz h' c' kp e) (by simp only [List.size_toArray] <;> omega)

/-! ### the call of a builtin's method: o.m(..) -/
/-- the value is of that builtin type -/
def tyV (K : PySem.W.Frag) (T : String) (x : V) (H : Hp) : Prop := match x with
  | .str _ => T = "str"
  | .int _ => T = "int"
  | .ref p => (T = "list" ∧ ∃ xs, SqL K H p xs) ∨ (T = "tuple" ∧ ∃ o, K.lookup p = some o ∧ o.cls = .type "tuple" ∧ o.dict = none) ∨
      (T = "dict" ∧ ((∃ kvs, H p = some (.dK kvs)) ∨ ∃ kvs, H p = some (.dT kvs))) ∨ (T = "set" ∧ ∃ S n, H p = some (.set S n))
  | _ => False
theorem tyV_is {pins : List (Addr × Obj)} {σ : St} {H : Hp} {s : Shared} {T : String} {x : V} {v : Value} (I : Inv X pins σ H s) (r : RelV x v) (ty : tyV X.K T x H) :
    s.TypeIs v T ∧ ∀ a, v = .ref a → ∃ ob, s.heap.get? a = some ob ∧ ob.dict = none := by
  cases x with
  | str z =>
    obtain ⟨t, rfl⟩ := r
    cases (show T = "str" from ty)
    exact ⟨typeIs_str s z t, fun _ e => nomatch e⟩
  | int i =>
    obtain ⟨t, rfl⟩ := r
    cases (show T = "int" from ty)
    exact ⟨typeIs_int s i t, fun _ e => nomatch e⟩
  | ref p =>
    cases r
    rcases ty with ⟨rfl, xs, hq⟩ | ⟨rfl, o, hk, hc, hd⟩ | ⟨rfl, hk⟩ | ⟨rfl, S, n, hk⟩
    · obtain ⟨its, _, pl, _⟩ := I.list hq
      refine ⟨pl.isList.typeIs, fun a e => ?_⟩
      cases e
      obtain ⟨o, n, e, c, hd, _⟩ := pl
      exact ⟨o, e, hd⟩
    · refine ⟨⟨o, I.kIn p o hk, hc⟩, fun a e => ?_⟩
      cases e
      exact ⟨o, I.kIn _ o hk, hd⟩
    · have z : ∃ o, s.heap.get? p = some o ∧ o.ExactDict := by
        rcases hk with ⟨kvs, hk⟩ | ⟨kvs, hk⟩
        · obtain ⟨_, _, _, _, o, _, _, e, ex, _⟩ := I.hok p _ hk
          exact ⟨o, e, ex⟩
        · obtain ⟨_, _, _, _, o, _, _, e, ex, _⟩ := I.hok p _ hk
          exact ⟨o, e, ex⟩
      obtain ⟨o, e, ex⟩ := z
      refine ⟨⟨o, e, ex.1⟩, fun a e2 => ?_⟩
      cases e2
      exact ⟨o, e, ex.2.1⟩
    · obtain ⟨o, _, _, _, e, ex, _⟩ := I.hok p _ hk
      refine ⟨⟨o, e, ex.1⟩, fun a e2 => ?_⟩
      cases e2
      exact ⟨o, e, ex.2.1⟩
  | _ => exact False.elim ty
def tBM (K : PySem.W.Frag) (T : String) (r : V → List V → Hp → VK → Prop) (to : TE) (t : TA) : TE := fun σ H Q => to σ H fun x H1 => tyV K T x H1 ∧ t σ H1 fun xs H2 => r x xs H2 Q
variable {o e : Expr} {es : List Expr} {to : TE} {t : TA} {name : Str} {apos cpos : Pos} {T id : String} {r : V → List V → Hp → VK → Prop}
theorem pe_bm (pa : PlainAttrs T) (slot : Slot T name id) (hty : typeOf (.builtin id) = pure (.type "method_descriptor")) (hm : MtR X id r) (ho : PE X o to) (ha : PA X (e :: es) t)
    (hbase : attributeBase o name X.env (eval o X.env) = eval o X.env := by rfl)
    (hfew : ((backTo cpos (starEach (e :: es) X.env)).all (fun x => !x.1) && (backToKw cpos (keywordEach [] X.env)).all (fun x => x.1.isSome)
      && decide ((e :: es).length + ([] : List Keyword).length + (if ([] : List Keyword).isEmpty then 0 else 1) < 30)) = true := by rfl)
    (hline : (apos.endLine == cpos.line) = true := by rfl) (hs : starEach (e :: es) X.env = (false, eval e X.env) :: starEach es X.env := by rfl) (hplain : (backTo cpos (starEach es X.env)).any (·.1) = false := by rfl) :
    PE X (.Call (.Attribute o name apos) (e :: es) [] cpos) (tBM X.K T r to t) := by
  intro pins s σ H Q I h
  refine wpAny_Call_method_late hbase hfew hline rfl (thn (ho pins s σ H _ I h) fun v s1 ⟨x, H1, I1, r1, ty, q1⟩ => ?_)
  obtain ⟨h1, h2⟩ := tyV_is I1 r1 ty
  refine ⟨T, id, pa, slot, hty, h1, h2, ?_⟩
  have hA := ha cpos pins s1 σ H1 _ I1 q1
  rw [hs] at hA ⊢
  refine Calls.callWith_builtin (by show (false || (backTo cpos (starEach es X.env)).any (·.1)) = false; rw [hplain] <;> rfl) (Calls.evalArgs_plain ?_)
  exact thn hA fun us s2 ⟨vs, H2, I2, r2, q2⟩ => hm pins s2 σ H2 x vs v us Q I2 r1 r2 q2
/- xs.append(e), list.index on a module's tuple .. are MtR facts of 06m -/
end
end L2

namespace L2
open PySem PySem.Spec PyProof.Rows

def MtM (X : Cx) (id : String) (r : V → List V → Hp → VK → Prop) : Prop :=
  ∀ (pins : List (Addr × Obj)) (s : Shared) (σ : St) (H : Hp) (x : V) (xs : List V) (v : Value) (us : List Value) (Q : VK), Inv X pins σ H s → RelV x v → Vals xs us → r x xs H Q →
    wpAny (model X.prog X.w) X.A (call (.builtin id) (v :: us)) (EP X pins σ Q) X.xe s

/-! ### lists of values -/
theorem Vals.one : ∀ {x : V} {us : List Value}, Vals [x] us → ∃ u, us = [u] ∧ RelV x u
  | _, _, .cons r .nil => ⟨_, rfl, r⟩

section
variable {X : Cx} {pins : List (Addr × Obj)} {σ : St} {H : Hp} {s : Shared} {l b : Addr} {xs ys zs : List V}

/-! ### the two steps: a tracked list is rewritten, a new list is laid -/
theorem Inv.lset {its its' : List Value} {n : Nat} {f : Array Value → Array Value} {t' : Nat} (I : Inv X pins σ H s) (hH : H l = some (.lst xs))
    (e : s.heap.get? l = some { cls := .type "list", data := .seq its.toArray n }) (hf : f its.toArray = its'.toArray) (hv : Vals ys its') (hz : ys.length ≤ sizeLine) :
    Inv X pins σ (upd H l (.lst ys)) { s with heap := s.heap.update l (Obj.mapSeq f), toks := t' } := by
  have q := PySem.IsL.update e f
  rw [hf] at q
  refine I.write (x := l) (e := l) (by rw [hH]; exact trivial) (.inl rfl) (fun b' u hb hu => (Heap.get?_update_other s.heap (Obj.mapSeq f) (Ne.symm hb)).trans hu) ⟨_, q⟩ ?_
  exact ⟨hz, its', _, hv, q⟩
theorem Inv.lnew {its : List Value} {t' : Nat} (I : Inv X pins σ H s) (hv : Vals ys its) (hz : ys.length ≤ sizeLine) :
    Inv X pins σ (upd H s.heap.objs.size (.lst ys)) { s with heap := s.heap.push { cls := .type "list", data := .seq its.toArray }, toks := t' } :=
  I.laid (fun _ _ q => Heap.get?_push_of_some _ q) (Nat.le_refl _) ⟨hz, its, 0, hv, Heap.get?_push_size _ rfl⟩
theorem Inv.fresh (I : Inv X pins σ H s) : H s.heap.objs.size = none := I.hok.fresh (Nat.le_refl _)
theorem Inv.lstM (I : Inv X pins σ H s) (hH : H l = some (.lst xs)) : xs.length ≤ sizeLine ∧ ∃ (its : List Value) (n : Nat), Vals xs its ∧ xs.length = its.length ∧ s.heap.get? l = some { cls := .type "list", data := .seq its.toArray n } := by
  obtain ⟨z, its, n, r, e⟩ := I.hok l _ hH
  exact ⟨z, its, n, r, r.length, e⟩

end

section
variable {X : Cx}

/-! ### methods -/
def rAppend : V → List V → Hp → VK → Prop := fun x vs H Q => ∃ l xs y, x = .ref l ∧ vs = [y] ∧ H l = some (.lst xs) ∧ xs.length < sizeLine ∧ Q .non (upd H l (.lst (xs ++ [y])))
theorem mt_append : MtM X "list.append" rAppend := by
  intro pins s σ H x vs v us Q I rx rv h
  obtain ⟨l, xs, y, rfl, rfl, hH, hz, q⟩ := h
  cases rx
  obtain ⟨u, rfl, ru⟩ := rv.one
  obtain ⟨z, its, n, r, hl, e⟩ := I.lstM hH
  refine call_meets F.slot_list_append ⟨_, e, rfl⟩ F.entry_list_append (F.args_list_append_2 _ _) (PySem.list_append l its.toArray n u (by rw [List.size_toArray]; omega)) ⟨e, ?_⟩
  refine ⟨.non, _, I.lset (its' := its ++ [u]) hH e (by simp) (r.append (.cons ru .nil)) ?_, rfl, q⟩
  rw [List.length_append, List.length_singleton]
  omega






/-! ### list + list, list += list, list * int -/
def rCat : R2 := fun x y H Q => ∃ l b xs zs, x = .ref l ∧ y = .ref b ∧ H l = some (.lst xs) ∧ H b = some (.lst zs) ∧ xs.length + zs.length ≤ sizeLine ∧ ∀ p, H p = none → Q (.ref p) (upd H p (.lst (xs ++ zs)))
theorem op_cat : OpR X (binaryOp .Add) rCat := by
  intro pins s σ H x y v u Q I rx ry h
  obtain ⟨l, b, xs, zs, rfl, rfl, hH, hB, hz, q⟩ := h
  cases rx
  cases ry
  obtain ⟨z, its, n, r, hl, e⟩ := I.lstM hH
  obtain ⟨z2, its2, n2, r2, hl2, e2⟩ := I.lstM hB
  refine PySem.P.add_list e e2 ?_ (by rw [List.size_toArray, List.size_toArray]; omega)
  have ea : its.toArray ++ its2.toArray = (its ++ its2).toArray := by simp
  rw [ea]
  exact ⟨.ref _, _, I.lnew (t' := s.toks) (r.append r2) (by rw [List.length_append]; omega), rfl, q _ I.fresh⟩

/-! ### del xs[i] -/
end

/-! ### xs[a:b] = ys -/
section
variable {prog : Program} {w : World} {A : Around} {E : Value → Shared → Prop} {s : Shared}
set_option maxRecDepth 100000 in
end

end L2

namespace Att
open PySem PySem.W PySem.Calls PyProof.Rows

/-! ### the script -/
theorem ints_of_wellAll {P : Params} {h : Heap} : ∀ (ns : List Int) (vs : List Value), WellAll P h vs (ns.map WData.int) → IntsAre vs ns := by
  intro ns
  induction ns with
  | nil =>
    intro vs w
    rw [List.map_nil] at w
    cases w
    exact .nil
  | cons n ns ih =>
    intro vs w
    rw [List.map_cons] at w
    cases w with
    | cons a b =>
      cases a
      exact .cons _ _ (ih _ b)

theorem script_of {l : OpenLaw} {n : Nat} (hn : l.most = some n) {P : Params} {h : Heap} {args : List WData} {vals : List Value}
    (hpre : l.row.toRowW.claim.pre args = true) (hwl : WellAll P h vals args) :
    ∃ a vs ns, vals = [Value.ref a] ∧ args = [WData.list (ns.map WData.int)] ∧ h.get? a = some { cls := .type "list", data := .seq vs.toArray } ∧ IntsAre vs ns ∧ ns.length ≤ n := by
  have hsh : WShape.hasAll [] args [.list .int] = true := (pre_splitW hpre).1
  have hc : l.pre.holds [] { args := args } = true := (pre_splitW hpre).2
  obtain ⟨d, r, rfl, h1, h2⟩ := hasAllW_cons hsh
  obtain rfl := hasAllW_nil h2
  obtain ⟨xs, rfl, h3⟩ := hasW_list h1
  obtain ⟨ns, rfl⟩ := items_int h3
  have hlen : ns.length ≤ n := by
    unfold OpenLaw.pre at hc
    have h4 : (WTm.not (.lt (.lit (.int (n : Int))) (.len (.arg 0)))).holds [] { args := [.list (ns.map .int)] } = true := by
      have h4 := (holds_andW hc).1
      rw [hn] at h4
      exact h4
    have h5 := condW_of h4 (w_not (w_lt w_lit (w_len_list (w_arg rfl))))
    rw [List.length_map] at h5
    refine Nat.le_of_not_lt fun q => ?_
    have q' : (n : Int) < ((ns.length : Nat) : Int) := by omega
    first
      | (rw [decide_eq_true q'] at h5; exact absurd h5 (by decide))
      | (simp at h5; omega)
  cases hwl with
  | cons w1 w2 =>
    cases w2
    cases w1 with
    | list ho hall => exact ⟨_, _, ns, rfl, rfl, ho, ints_of_wellAll ns _ hall, hlen⟩

theorem post_true (l : OpenLaw) (args : List WData) : l.row.toRowW.claim.post args (.bool true) args = true :=
  postW_of (r := l.row.toRowW) (X := (true == true))
    (show WShape.has [] (.bool true) .bool = true by first | rfl | decide | simp [WShape.has, WShape.arms, WShape.armsAll])
    (show (WTm.eq .res (.lit (.bool true))).value [] { args := args, res := some (.bool true), after := args } = some (.bool (true == true)) from w_eq_bool (w_res rfl) w_lit) rfl

/-! ### the attachment: holds_open's last premise (the goal 'hc' behind k_head) from a wpAny of the law's body -/

/-- the same from a codeAny of the CALL (for a layer whose function contracts speak of calls) -/
theorem attach_call {l : OpenLaw} {n : Nat} {q : Program} {loose : List Str} {XP : (Str → Option Value) → Heap → Prop} {YP : World → Heap → Prop} {d : DefRec}
    (hn : l.most = some n) (hdf : d.params.defaults = [])
    (call : ∀ (w : World) (s₀ s₁ : Shared) (mg mb : Str → Option Value) (fa : Addr) (o : Obj) (pm cd doc : Value) (a : Addr) (vs : List Value) (ns : List Int),
      Ground q loose [] XP w s₀ mg mb s₁.heap → YP w s₁.heap →
      s₁.heap.get? fa = some o → o.data = .func (docDef d.name d.params d.body d.scope pm cd doc) → s₁.heap.CodeRec cd d.name → mg d.name = some (.ref fa) →
      s₁.heap.get? a = some { cls := .type "list", data := .seq vs.toArray } → IntsAre vs ns → ns.length ≤ n → s₁.gens = #[] →
      codeAny (model l.prog w) callerA (.call (.ref fa) ⟨[.ref a], []⟩) (fun r s' => r = .ok (.ret (.bool true)) ∧ OldK s₁.heap s'.heap ∧ s'.os = s₁.os ∧ AllBare s'.gens) s₁) :
    WalkO q loose XP YP l.row.toRowW d [] (fun f vs => PySem.call f vs) := by
  intro w s₀ s₁ mg mb G Y fa o pm cd doc dV kV ho hd hcd hD hmg hg args vals as hpre hlay hrd hwl hlo
  obtain rfl : dV = .none := Dflts.none hD hdf
  obtain rfl : kV = .none := Dflts.noKw hD
  obtain ⟨a, vs, ns, rfl, rfl, hobj, hints, hlen⟩ := script_of hn hpre hwl
  refine enter_call (codeAny_mono (call w s₀ s₁ mg mb fa o pm cd doc a vs ns G Y ho (fd_plain hd) hcd hmg hobj hints hlen hg) fun r s' hq => ?_)
  obtain ⟨rfl, h2, h3, h4⟩ := hq
  exact ⟨.inl ⟨.bool true, .bool true, [], rfl, fun _ => rfl, .bool true, post_true l _, fun _ => ⟨List.Pairwise.nil, fun _ hm => (nomatch hm)⟩⟩, h2, h3, h4⟩


/-! ### rules over ANY heap (no ledger) from facts about the written part K: the library's own take a ledger (News) for what they write -/
section
variable {prog : Program} {w : World} {A : Around} {E : Value → Shared → Prop} {s : Shared} {K : Frag}





/-! the whole heap as the ledger: makes every rule that writes through a ledger a rule over any heap -/

end
end Att

namespace L2
open PySem PySem.Spec PyProof.Rows

theorem vals_ints : ∀ {vs : List Value} {ns : List Int}, IntsAre vs ns → Vals (ns.map V.int) vs
  | _, _, .nil => .nil
  | _, _, .cons n t h => .cons ⟨t, rfl⟩ (vals_ints h)

/-- nothing is tracked but the script, known to the object (or it is an object of the module) -/
def Only (H : Hp) : Prop := ∀ b, H b = none ∨ ∃ o xs, H b = some (.frz o (.lst xs))

/-- THE HEAD: the law's promise, at the heap behind the top. F, the promise of the law's def, may use that base is part of the heap (so K.In base, base.Ns mainGlobals mg stand in Mod) -/
theorem law_call {P : Program} {w : World} {K : PySem.W.Frag} {mg mb : Str → Option Value} {CX : CXT} {k : Nat} {fa a : Addr} {fd : FuncData} {x : Str} {sp : Sp} {s₁ : Shared} {vs : List Value} {ns : List Int}
    (KX : K.In s₁.heap) (hns : s₁.heap.Ns mainGlobals mg) (hb : s₁.heap.Ns builtinsNs mb) (hbb : ∀ x : Str, x ≠ "__name__" → mb x = bootBuiltins x) (hlim : s₁.heap.NoLimit) (hg : s₁.gens = #[])
    (ha : s₁.heap.get? a = some { cls := .type "list", data := .seq vs.toArray }) (hi : IntsAre vs ns) (hl : ns.length ≤ sizeLine) (hr : Room k callerA)
    (F : ∀ base : Heap, K.In base → base.Ns mainGlobals mg → FnOk P w K mg base CX k fa fd [x] sp) (hbind : ∀ (s : Shared) (u : Value), BindsTo s fd ⟨[u], []⟩ [(x, u)])
    (hsp : ∀ H : Hp, Only H → SqL K H a (ns.map V.int) → sp [.ref a] H (fun v _ => v = .bl true) fun _ _ _ => False)
    (hCX : ∀ H e s', CX [] H s₁ (fun _ _ _ => False) e s' → False) :
    codeAny (model P w) callerA (.call (.ref fa) ⟨[.ref a], []⟩) (fun r s' => r = .ok (.ret (.bool true)) ∧ OldK s₁.heap s'.heap ∧ s'.os = s₁.os ∧ AllBare s'.gens) s₁ := by
  have rv := vals_ints hi
  have lenV := hi.length
  -- from an abstract heap in which nothing but the script may be tracked
  have core : ∀ H : Hp, Only H → SqL K H a (ns.map V.int) → HOk P w H s₁.heap → (∀ b, H b ≠ none → b = a) → (H a ≠ none → K.lookup a = none) →
      codeAny (model P w) callerA (.call (.ref fa) ⟨[.ref a], []⟩) (fun r s' => r = .ok (.ret (.bool true)) ∧ OldK s₁.heap s'.heap ∧ s'.os = s₁.os ∧ AllBare s'.gens) s₁ := by
    intro H hO hS hok hA hK
    have base_of : ∀ {b : Addr} {o : Obj}, s₁.heap.get? b = some o → H b = none → (hidT s₁.heap H).get? b = some o := fun e n => hidT_get e n
    have noA : ∀ {b : Addr} {o : Obj} {es : Array DictEntry} {ep : Nat}, s₁.heap.get? b = some o → o.data = .dict es ep → H b = none := fun {b o es ep} e d => by
      cases q : H b with
      | none => rfl
      | some u =>
        have e' : b = a := hA b (by rw [q]; simp)
        subst e'
        rw [ha] at e; cases e
        have d' : Data.seq vs.toArray _ = Data.dict es ep := d
        cases d'
    have nsK : ∀ {b : Addr} {m : Str → Option Value}, s₁.heap.Ns b m → (hidT s₁.heap H).Ns b m := fun {b m} ⟨o, es, ep, e, d, r⟩ => ⟨o, es, ep, base_of e (noA e d), d, r⟩
    have hKb : K.In (hidT s₁.heap H) := fun b o e => base_of (KX b o e) (by
      cases q : H b with
      | none => rfl
      | some u =>
        have e' : b = a := hA b (by rw [q]; simp)
        subst e'
        rw [hK (by rw [q]; simp)] at e; cases e)
    have hM : Mod K mg (hidT s₁.heap H) := ⟨hKb, nsK hns, ⟨mb, nsK hb, hbb⟩, let ⟨mc, h1, h2⟩ := hlim; ⟨mc, nsK h1, h2⟩⟩
    have e0 : Env0 P w K mg (hidT s₁.heap H) callerA [] s₁ H := ⟨rfl, hM, fun b o e => of_hidT e, Nat.le_of_eq (hidT_size _ _), trivial, fun b hb => absurd (show b ∈ ([] : List Addr) from hb) (by simp), hok, .of_eq hg⟩
    refine codeAny_mono ((F _ hKb (nsK hns)).run callerA [] s₁ H ⟨[.ref a], []⟩ [.ref a] [.ref a] _ _ hr e0 (hbind s₁ (.ref a)) (.cons rfl .nil) (hsp H hO hS)) fun r s' h => ?_
    cases r with
    | error e => exact (hCX H e s' h).elim
    | ok fl =>
      cases fl with
      | next => exact False.elim h
      | brk => exact False.elim h
      | cont => exact False.elim h
      | ret u =>
        obtain ⟨v, H', os, bare, un, hok', r', q⟩ := h
        have q' : v = .bl true := q
        subst q'
        obtain rfl : u = Value.bool true := r'
        refine ⟨rfl, OldK.of_keep fun b o e => ?_, os, bare⟩
        cases q : H b with
        | none => exact un.keep b o e q (by intro z; exact absurd (show b ∈ ([] : List Addr) from z) (by simp)) (by simp)
        | some u =>
          rcases hO b with z | ⟨ob, xs, z⟩
          · rw [q] at z; cases z
          · have z2 := un.frzs b ob _ z
            obtain ⟨e1, _⟩ := hok b _ z
            obtain ⟨e2, _⟩ := hok' b _ z2
            rw [e] at e1; cases e1
            exact e2
  cases hk : K.lookup a with
  | some o =>
    -- the script is one of the module's own objects
    have e := KX a o hk
    rw [ha] at e
    cases e
    refine core (fun _ => none) (fun _ => .inl rfl) (.inr ⟨_, vs.toArray, _, hk, rfl, rfl, rfl, by rw [List.size_toArray, lenV]; exact hl, by simpa using rv⟩) (fun b u z => by have z' : (none : Option HO) = some u := z; cases z') (fun b z => absurd rfl z) fun z => absurd rfl z
  | none =>
    refine core (fun b => if b = a then some (.frz { cls := .type "list", data := .seq vs.toArray } (.lst (ns.map V.int))) else none) (fun b => ?_) (.inl (.inr ⟨{ cls := .type "list", data := .seq vs.toArray }, if_pos rfl⟩)) (fun b u z => ?_) (fun b z => ?_) fun _ => hk
    · by_cases hb : b = a
      · exact .inr ⟨_, _, if_pos hb⟩
      · exact .inl (if_neg hb)
    · by_cases hb : b = a
      · have z' := (if_pos hb).symm.trans z
        cases z'
        subst hb
        exact ⟨ha, by rw [List.length_map]; exact hl, vs, _, rv, ha⟩
      · have z' := (if_neg hb).symm.trans z
        cases z'
    · by_cases hb : b = a
      · exact hb
      · exact absurd (if_neg hb) z
end L2

namespace L2
open PySem PySem.Spec PyProof.Rows


/-- the goal that k_head leaves (case hc), from the law's promise. F gives the function object fd (K's own) once, then the promise over every base -/
theorem walk_of {l : PySem.W.OpenLaw} {n k : Nat} {q : Program} {loose : List Str} {XP : (Str → Option Value) → Heap → Prop} {YP : World → Heap → Prop} {d : DefRec} {K : Params → PySem.W.Frag} {CX : World → CXT} {sp : World → Sp} {x : Str}
    (hn : l.most = some n) (hn2 : n ≤ sizeLine) (hdf : d.params.defaults = []) (hr : Room k callerA)
    (hY : ∀ (w : World) (h : Heap), YP w h → (K w.params).In h)
    (F : ∀ (w : World) (mg : Str → Option Value) (fa : Addr) (h : Heap), (K w.params).In h → h.Ns mainGlobals mg → mg d.name = some (.ref fa) →
      ∃ fd : FuncData, (∀ (s : Shared) (u : Value), BindsTo s fd ⟨[u], []⟩ [(x, u)]) ∧
        ∀ base : Heap, (K w.params).In base → base.Ns mainGlobals mg → FnOk l.prog w (K w.params) mg base (CX w) k fa fd [x] (sp w))
    (hsp : ∀ (w : World) (H : Hp) (a : Addr) (ns : List Int), ns.length ≤ n → Only H → SqL (K w.params) H a (ns.map V.int) → sp w [.ref a] H (fun v _ => v = .bl true) fun _ _ _ => False)
    (hCX : ∀ (w : World) (H : Hp) (s : Shared) (e : Value) (s' : Shared), CX w [] H s (fun _ _ _ => False) e s' → False) :
    PySem.W.WalkO q loose XP YP l.row.toRowW d [] (fun f vs => PySem.call f vs) := by
  refine Att.attach_call hn hdf fun w s₀ s₁ mg mb fa o pm cd doc a vs ns G Y ho hd hcd hmg hobj hints hlen hg => ?_
  have KX := hY w _ Y
  obtain ⟨fd, hb, hF⟩ := F w mg fa _ KX G.T.g hmg
  exact law_call KX G.T.g G.T.b G.T.builtins G.T.nolimit hg hobj hints (Nat.le_trans hlen hn2) hr hF hb (fun H hO hS => hsp w H a ns hlen hO hS) fun H e s' => hCX w H s₁ e s'
end L2



/-! SHORT WORDS over the layer: a def of the text, its body, what a loop and a test want. -/
namespace L2
open PySem PySem.Spec PyProof.Rows

/-! ### the text by places -/
def defArgs (s : Stmt) : Arguments := match s with
  | .FunctionDef _ a _ _ _ _ _ _ _ _ => a
  | _ => { posonlyargs := [], args := [], vararg := none, kwonlyargs := [], kw_defaults := [], kwarg := none, defaults := [] }
def defBody (s : Stmt) : List Stmt := match s with
  | .FunctionDef _ _ b _ _ _ _ _ _ _ => b
  | _ => []
def defScope (s : Stmt) : Scope := match s with
  | .FunctionDef _ _ _ _ _ _ sc _ _ _ => sc
  | _ => { kind := .function, names := [], isGenerator := false, isCoroutine := false }

/-! ### no exception leaves a def -/
abbrev CX0 : CXT := fun _ _ _ _ _ _ => False
abbrev E0 : XK := fun _ _ _ => False
theorem pass0 {X : Cx} : Passes CX0 X E0 := fun _ _ _ _ _ _ _ h => h.elim

/-! ### a def (or method) of the text as it stands behind the top -/
structure Fun (K : PySem.W.Frag) (x qual : Str) (st : Stmt) (f : Addr) (fd : FuncData) : Prop where
  ex : ∃ (oc : Value) (od : Option Addr) (kV doc pm : Value) (an : Option Addr) (cdv ct : Value) (osl : Array (Option Value)),
    fd = PySem.W.fnOf x qual (defArgs st) (defBody st) (defScope st) .none kV doc pm an cdv ct ∧ K.lookup f = some ⟨oc, od, .func fd, osl⟩ ∧ PySem.W.codeIn K cdv qual = true
  kp : PySem.W.keepIn K (.ref f) = true
section
variable {P : Program} {w : World} {K : PySem.W.Frag} {mg : Str → Option Value} {base : Heap}
/-- THE RULE for a def: its body as a term of rules, and the reading of that term -/
theorem Fun.ok {x qual : Str} {st : Stmt} {f : Addr} {fd : FuncData} {N ps : List Str} {k : Nat} {sp : Sp} (F : Fun K x qual st f fd) (S : FnScope N ps (defScope st)) (len : ∀ vs H Q E, sp vs H Q E → vs.length = ps.length)
    (hbody : ∀ (cdv : Value) (A : Around) (outer : List Env) (s : Shared) (H : Hp) (vs : List V) (Q : VK) (E : XK), Room k (A.deeper (envOfC qual (defScope st) s.heap.objs.size f cdv)) → sp vs H Q E →
      ∃ t, PSs (cxOf CX0 P w K mg base N qual (defScope st) f cdv A outer s H E).nox (defBody st) t ∧ t { nx := fun _ H' => Q .non H', rt := Q } (start N vs) H) : FnOk P w K mg base CX0 (k + 1) f fd ps sp := by
  obtain ⟨oc, od, kV, doc, pm, an, cdv, ct, osl, rfl, lk, hcd⟩ := F.ex
  refine fn_of lk hcd S len fun A outer s H vs Q E hr hsp => ?_
  obtain ⟨t, h, q⟩ := hbody cdv A outer s H vs Q E hr hsp
  exact ⟨t, h.nox, q⟩
/-- how its arguments bind (no defaults): h is «fun _ _ _ _ _ _ us hl => match us, hl with | [_, _], _ => rfl», one _ a parameter -/
theorem Fun.binds {x qual : Str} {st : Stmt} {f : Addr} {fd : FuncData} {ps : List Str} (F : Fun K x qual st f fd)
    (h : ∀ (kV doc pm : Value) (an : Option Addr) (cdv ct : Value) (us : List Value), us.length = ps.length → bindArgs (PySem.W.fnOf x qual (defArgs st) (defBody st) (defScope st) .none kV doc pm an cdv ct) ⟨us, []⟩ = pure (ps.zip us)) : Binds K fd ps [] := by
  obtain ⟨oc, od, kV, doc, pm, an, cdv, ct, osl, rfl, lk, hcd⟩ := F.ex
  exact .all (h kV doc pm an cdv ct)
theorem fun_mk {x qual : Str} {st : Stmt} {f : Addr} {oc : Value} {od an : Option Addr} {osl : Array (Option Value)} {kV doc pm cdv ct : Value} (l : K.lookup f = some ⟨oc, od, .func (PySem.W.fnOf x qual (defArgs st) (defBody st) (defScope st) .none kV doc pm an cdv ct), osl⟩)
    (c : PySem.W.codeIn K cdv qual = true) (k : PySem.W.keepIn K (.ref f) = true) : Fun K x qual st f (PySem.W.fnOf x qual (defArgs st) (defBody st) (defScope st) .none kV doc pm an cdv ct) := ⟨⟨oc, od, kV, doc, pm, an, cdv, ct, osl, rfl, l, c⟩, k⟩
end
theorem hu_of {A : Around} {k : Nat} (hr : Room k A) : A.units + 1 < cLine := Nat.lt_of_le_of_lt (Nat.add_le_add_left (by decide : 1 ≤ 64) _) hr.units
theorem small1000 {n : Nat} (h : n ≤ 1000) : n < sizeLine := Nat.lt_of_le_of_lt h (by decide)

/-! ### expressions in short: the name that stands in the i-th slot -/
section
variable {X : Cx}
theorem pv (i : Nat) {x : Str} {pos : Pos} (hN : X.N[i]? = some x := by rfl) (hv : Vis X.env.scope x := by first | exact Or.inl rfl | exact Or.inr (Or.inl rfl) | exact Or.inr (Or.inr rfl)) (hd : (x == ("__debug__" : Str)) = false := by decide)
    (hcd : (x == ("__classdict__" : Str)) = false := by decide) : PE X (.Name x pos) (tVar i) := pe_var hN hv hd hcd
end

/-! ### tests -/

/-! ### heaps -/
/-- all that was tracked is as it was -/
def Same (H H' : Hp) : Prop := ∀ b o, H b = some o → H' b = some o
theorem Same.trans {H H1 H2 : Hp} (a : Same H H1) (b : Same H1 H2) : Same H H2 := fun c o h => b c o (a c o h)
theorem Same.free {H H' : Hp} (e : Same H H') {l : Addr} (h : H' l = Option.none) : H l = Option.none := by
  cases q : H l with
  | none => rfl
  | some o =>
    rw [e l o q] at h
    cases h

end L2

set_option linter.all false
set_option maxRecDepth 100000
set_option maxHeartbeats 4000000
namespace L2
open PySem PySem.Spec PyProof.Rows
/-! wider rules of one's own over the layer -/
/-- so many bits at the most -/
def Bd (n : Nat) (i : Int) : Prop := i.natAbs < 2 ^ n
theorem Bd.mono {m n : Nat} {i : Int} (h : Bd m i) (e : m ≤ n) : Bd n i := Nat.lt_of_lt_of_le h (Nat.pow_le_pow_right (by decide) e)
theorem Bd.log {m : Nat} {i : Int} (h : Bd m i) (hm : 0 < m) : i.natAbs.log2 < m := by
  unfold Bd at h
  by_cases e : i.natAbs = 0
  · rw [e]; simpa using hm
  · exact (Nat.log2_lt e).mpr h
/-- a division that goes by no other module -/
def CDivB (_ j : Int) : Prop := j ≠ 0 ∧ Bd 9000 j
section
variable {X : Cx}
theorem op_mulB : OpR X (binaryOp .Mult) (rI IntMulOk fun i j => .int (i * j)) := opI fun _ _ _ _ _ _ _ hc q => mul_int q hc
theorem op_fdivB : OpR X (binaryOp .FloorDiv) (rI CDivB fun i j => .int (i.fdiv j)) := opI fun _ _ _ _ _ _ _ hc q => floordiv_int hc.1 q (.inl (PyProof.noPylong_of_log2 (hc.2.log (by decide))))
theorem op_isnot_bl : OpR X (compareOp .IsNot) (fun x y H Q => ∃ b c, x = .bl b ∧ y = .bl c ∧ Q (.bl (!decide (b = c))) H) := by
  intro pins s σ H x y v u Q I rx ry h
  obtain ⟨b, c, rfl, rfl, q⟩ := h
  cases rx; cases ry
  refine PySem.wpAny_isNot_plain (by rfl) (fin_bl I q ?_)
  cases b <;> cases c <;> rfl
/-- isinstance(x, T), T a type of the language -/
theorem call_isinst : CallR X (.builtin "isinstance") (fun xs H Q => ∃ x n t b, xs = [x, .ty n] ∧ TyOf X.K H x t ∧ PySem.W.kitOne X.K t (.type n) = some b ∧ Q (.bl b) H) := by
  intro pins s σ H xs us Q I r h
  obtain ⟨x, n, t, b, rfl, ty, e, q⟩ := h
  obtain ⟨u, v, rfl, ru, rv⟩ := vals2 r
  cases (show v = Value.type n from rv)
  exact isinst_ok I ru ty e fun tk => ⟨.bl b, H, I.tok _, rfl, q⟩
theorem kit_same {K : PySem.W.Frag} {n : String} : PySem.W.kitOne K (.type n) (.type n) = some true := by
  unfold PySem.W.kitOne; rw [if_pos (beq_self_eq_true _)]
/-- all(xs), any(xs) of bools -/
theorem boolsAre_of : ∀ {bs : List Bool} {us : List Value}, Vals (bs.map V.bl) us → PyProof.Rows.LSm.BoolsAre us bs := by
  intro bs
  induction bs with
  | nil => intro us h; cases h; exact .nil
  | cons b bs ih =>
    intro us h
    cases h with
    | cons r t =>
      cases (show _ = Value.bool b from r)
      exact .cons _ (ih t)
theorem call_all (hc : X.calm = true) : CallR X (.builtin "all") (fun xs H Q => ∃ (p : Addr) (bs : List Bool), xs = [.ref p] ∧ SqL X.K H p (bs.map V.bl) ∧ Q (.bl (bs.all id)) H) := by
  intro pins s σ H xs us Q I r h
  obtain ⟨p, bs, rfl, hq, q⟩ := h
  obtain ⟨u, rfl, ru⟩ := vals1 r
  cases ru
  obtain ⟨vs, rv, pl, hz⟩ := I.list hq
  have hl := pl.isList
  have hb := boolsAre_of rv
  have hh : X.A.handled = none := I.ok.hd hc
  have hlt : p < s.heap.objs.size := by obtain ⟨_, e, _⟩ := hl; exact Heap.lt_size e
  have W := Walks.list (A := X.A.in1) (prog := X.prog) (w := X.w) hh s.heap.objs.size p (Nat.ne_of_lt hlt) vs.toArray
  have tr : ∀ (i : Nat) (v : Value) (s' : Shared) (Q' : Bool → Shared → Prop) (E' : Value → Shared → Prop), vs.toArray[i]? = some v → Q' ((bs[i]?).getD true) s' → wpAny (model X.prog X.w) X.A.in1 (truthy v) Q' E' s' := fun i v s' Q' E' e q' => by
    obtain ⟨b, e2, rfl⟩ := hb.get i v (by simpa using e)
    rw [e2] at q'
    exact wpAny_truthy_bool q'
  have tot : ((List.range vs.toArray.size).all fun i => (bs[i]?).getD true) = bs.all id := by
    rw [List.size_toArray, hb.length]
    exact PyProof.Rows.LSm.range_all bs
  exact call_all_walk (wpAny_pyIter_list hl ⟨_, _, _, _, _, _, fun i => (bs[i]?).getD true, rfl, W, ⟨⟨_, Heap.get?_push_size _ rfl, rfl, rfl⟩, hl.push _⟩, tr, fun h' tk hk => by
    rw [tot]
    exact ⟨.bl _, H, I.kept (PyProof.Rows.LSm.kept_iter hk), rfl, q⟩⟩)
end
/-! ### == of tuples and lists of data -/
end L2

set_option linter.all false
set_option maxRecDepth 100000
set_option maxHeartbeats 4000000
namespace L2
open PySem PySem.Spec PyProof.Rows
/-! ### a comprehension -/
/-- the context of its block -/
def blk (X : Cx) (N' : List Str) (scope : Scope) (cl : List (Str × Addr)) (C : Addr) (fp : List Addr) (s0 : Shared) (H0 : Hp) : Cx :=
  { X with N := N', s₀ := s0, H₀ := H0, env := compEnvC scope cl C X.env, outer := X.stack, stack := X.stack, ex := fp, fn := fun _ => false, pn := [], xe := fun _ _ => False }
/-- what was known of the slots is known -/
def KeepS (a b : St) : Prop := b.length = a.length ∧ ∀ (i : Nat) v, a[i]? = some (some v) → b[i]? = some (some v)
theorem KeepS.none1 {v : Option V} : KeepS [none] [v] := ⟨rfl, fun i w h => by
  cases i with
  | zero => cases h
  | succ i => simp at h⟩
theorem KeepS.cons {a b : St} (h : KeepS a b) (v : Option V) : KeepS (none :: a) (v :: b) := ⟨by simp [h.1], fun i w e => by
  cases i with
  | zero => cases e
  | succ i => simpa using h.2 i w (by simpa using e)⟩
theorem KeepS.refl (a : St) : KeepS a a := ⟨rfl, fun _ _ h => h⟩
def tComp (wi : TI) (fr : St → St) (g : TG) (te : TE) : TE := fun σ H Q => wi σ H fun J H1 => ∀ D, H1 D = none → ∃ W : Nat → Nat → List V → Hp → Prop, (∃ m, W 0 m [] (upd H1 D (.lst []))) ∧
  ∀ i m ys H2, W i m ys H2 → (J.stop i H2 ∧ Q (.ref D) H2) ∨ (J.go i H2 ∧ ys.length < sizeLine ∧ ∀ x H3, J.yld i H2 x H3 → g x (fr σ) H3 fun σ2 H3' => KeepS (fr σ) σ2 ∧ te σ2 H3' fun y H4 =>
    H4 D = some (.lst ys) ∧ ∃ m', m' < m ∧ W (i + 1) m' (ys ++ [y]) (upd H4 D (.lst (ys ++ [y]))))
section
variable {X : Cx}
theorem blk_ok {pins : List (Addr × Obj)} {σ : St} {H : Hp} {s : Shared} {N' : List Str} {scope : Scope} {cl : List (Str × Addr)} {fp : List Addr} (I : Inv X pins σ H s) (hkind : scope.kind = .function)
    (hcl : ∀ y c, cl.lookup y = some c → X.env.cells.lookup y = some c) (hhas : ∀ y, ((relabel scope X.env).names.lookup y = some .cell ∨ (relabel scope X.env).names.lookup y = some .free) → ∃ c, cl.lookup y = some c)
    (hf : ∀ b ∈ fp, FpOk X pins H b) (hlt : ∀ b ∈ fp, b < s.heap.objs.size) : (blk X N' scope cl s.heap.objs.size fp s H).Ok where
  mod := I.ok.mod
  kind := by simp [blk, compEnvC, relabel, hkind]
  glob := I.ok.glob
  blt := I.ok.blt
  above := Nat.le_refl _
  inj := fun x y c h1 h2 => I.ok.inj x y c (hcl x c h1) (hcl y c h2)
  has := fun x h => hhas x h
  cab := fun x c h => nomatch h
  hd := I.ok.hd
  frames := I.ok.frames
  stk := .inl rfl
  exf := fun b hb => ⟨Nat.ne_of_lt (hlt b hb), fun x c e => (hf b hb).2.2.2.2.1 x c (hcl x c e)⟩
  bs := I.bs
  bsz := Nat.le_trans I.ok.bsz I.sz
  noex := fun b o e hb => by
    rcases (hf b hb).2.2.2.1 with z | z
    · exact I.ok.noex b o e z
    · exact absurd (Nat.lt_of_lt_of_le (Heap.lt_size e) (Nat.le_trans I.ok.bsz z)) (Nat.lt_irrefl _)
  exfs := fun b hb z => by
    rcases List.mem_cons.mp (I.stkSub b z) with e | e
    · exact (hf b hb).2.1 e
    · exact (hf b hb).2.2.1 e
  funs := I.stack
  frf := I.stkFree
theorem pe_lcomp {tg elt iter : Expr} {scope : Scope} {cl : List (Str × Addr)} {pos : Pos} {N' : List Str} {wi : TI} {fr : St → St} {g : TG} {te : TE}
    (hc : X.calm = true) (hi : PI X tg iter wi)
    (hg : ∀ C fp s0 H0, PG (blk X N' scope cl C fp s0 H0) tg g) (he : ∀ C fp s0 H0, PE (blk X N' scope cl C fp s0 H0) elt te)
    (hclos : closureFor scope X.env = pure cl) (hkind : scope.kind = .function) (hnames : ∀ x ∈ scope.names, x.2 = .local → scope.names.lookup x.1 = some .local) (hcell : ∀ y ∈ scope.names, y.2 ≠ .cell)
    (hcl : ∀ y c, cl.lookup y = some c → X.env.cells.lookup y = some c) (hhas : ∀ y, ((relabel scope X.env).names.lookup y = some .cell ∨ (relabel scope X.env).names.lookup y = some .free) → ∃ c, cl.lookup y = some c)
    (hfl : ∀ σ : St, σ.length = X.N.length → (fr σ).length = N'.length)
    (hfr : ∀ (σ : St) (i : Nat) (y : Str) (v : V), N'[i]? = some y → (fr σ)[i]? = some (some v) → ∃ j : Nat, X.N[j]? = some y ∧ σ[j]? = some (some v) ∧ X.env.kindOf y = some .cell ∧ (relabel scope X.env).names.lookup y = some .cell)
    (hs : ∀ x, foldedSetIterable iter X.env x = pure x := by intro _; rfl) :
    PE X (.ListComp elt [⟨tg, iter, [], 0⟩] scope pos) (tComp wi fr g te) := by
  intro pins s σ H Q I h
  rw [eval_ListComp]
  refine wpAny_comprehension_free (use := none) rfl hs hclos hkind hnames ?_
  refine thn (hi pins s σ H _ I h) fun v s1 h1 => thn h1 fun itv s2 h2 => ?_
  obtain ⟨it, fp, tn, J, H2, rfl, I2, T, st2, f2, q2⟩ := h2
  have D0 : H2 s2.heap.objs.size = none := I2.hok.fresh (Nat.le_refl _)
  obtain ⟨W, ⟨m0, w0⟩, turn⟩ := q2 _ D0
  refine wpAny_newObj_type (wpAny_newFunctionEnv hcell (by intro y hy; simp at hy) (fun h₁ hns₁ hsb₁ => ?_) hkind)
  dsimp only at hns₁ hsb₁ ⊢
  have I3 : Inv X pins σ (upd H2 s2.heap.objs.size (.lst [])) { s2 with heap := s2.heap.push { cls := .type "list", dict := none, data := .seq ([] : List Value).toArray } } :=
    I2.laid (t' := s2.toks) (fun b u e => Heap.get?_push_of_some _ e) (Nat.le_refl _) ⟨Nat.zero_le _, [], _, .nil, Heap.get?_push_size _ rfl⟩
  generalize hH3 : upd H2 s2.heap.objs.size (.lst []) = H3 at I3 w0
  generalize hs3 : ({ s2 with heap := s2.heap.push { cls := .type "list", dict := none, data := .seq ([] : List Value).toArray } } : Shared) = s3 at I3
  have eh : s3.heap = s2.heap.push { cls := .type "list", dict := none, data := .seq ([] : List Value).toArray } := by rw [← hs3]
  have fl : ∀ b ∈ fp, b < s2.heap.objs.size := fun b hb => by
    obtain ⟨o, e, _⟩ := T.obj 0 _ st2 b hb
    exact Heap.lt_size e
  have fn : ∀ b ∈ fp, H3 b = none := fun b hb => by
    rw [← hH3, upd_ne (Nat.ne_of_lt (fl b hb))]; exact (f2 b hb).1
  have f3 : ∀ b ∈ fp, FpOk X pins H3 b := fun b hb => ⟨fn b hb, (f2 b hb).2⟩
  have old : ∀ b u, s3.heap.get? b = some u → h₁.get? b = some u := fun b u e => by
    refine hsb₁.extBut b u ?_ (Heap.get?_push_of_some _ (by rw [← eh]; exact e))
    have := Heap.lt_size e
    rw [eh] at this
    exact Nat.ne_of_lt this
  have up : ∀ b u, s2.heap.get? b = some u → s3.heap.get? b = some u := fun b u e => by rw [eh]; exact Heap.get?_push_of_some _ e
  have ok := blk_ok (N' := N') (scope := scope) (cl := cl) (fp := fp) I3 hkind hcl hhas f3 fun b hb => by rw [eh, Heap.size_push]; exact Nat.lt_succ_of_lt (fl b hb)
  rw [← eh] at hns₁ ⊢
  have IB : Inv (blk X N' scope cl s3.heap.objs.size fp s3 H3) [] (fr σ) H3 { s3 with heap := h₁, toks := s2.toks + ([] : List (Str × Value)).length } := by
    refine ⟨ok, rfl, I3.bare, Un.kept old, ⟨_, hns₁, fun i y v e1 e2 e3 => ?_⟩, fun x c e => ?_, I3.hok.fresh (Nat.le_refl _), fun x c e => I3.freeC x c (hcl x c e), fun p hp => by simp [blk] at hp, I3.hok.kept old, hfl σ I3.len⟩
    · obtain ⟨j, n1, n2, n3, n4⟩ := hfr σ i y v e1 e2
      obtain ⟨m, _, hl⟩ := I3.loc
      obtain ⟨u, r, l⟩ := hl j y v n1 n2 (.inr (.inl n3))
      refine ⟨u, r, .inr ⟨.inl n4, ?_⟩⟩
      rcases l with ⟨k, _⟩ | ⟨_, c, e, ic⟩
      · rw [n3] at k; cases k
      · obtain ⟨c', e'⟩ := hhas y (.inl n4)
        have e'' := hcl y c' e'
        rw [e] at e''; cases e''
        obtain ⟨o, ho, hd⟩ := ic
        exact ⟨c, e', o, old c o ho, hd⟩
    · obtain ⟨v, o, ho, hd⟩ := I3.cell x c (hcl x c e)
      exact ⟨v, o, old c o ho, hd⟩
  have stB : tn 0 h₁ := T.keep _ _ _ st2 fun b hb o e => old b o (up b o e)
  have D2 : s2.heap.objs.size < s3.heap.objs.size := by rw [eh, Heap.size_push]; exact Nat.lt_succ_self _
  have stat : ∀ {H' : Hp}, (∀ b ∈ fp, H' b = none) → ∀ b ∈ fp, FpOk (blk X N' scope cl s3.heap.objs.size fp s3 H3) [] H' b := fun hn b hb =>
    ⟨hn b hb, Nat.ne_of_lt (Nat.lt_trans (fl b hb) D2), ok.exfs b hb, .inl hb, fun x c e => (ok.exf b hb).2 x c e, fun p hp => by simp [blk] at hp⟩
  have loop : codeAny (model X.prog X.w) X.A (.compLoop (.ListComp elt [⟨tg, iter, [], 0⟩] scope pos) 0 (.ref it) (.ref s2.heap.objs.size) (compEnvC scope cl s3.heap.objs.size X.env))
      (compPost (model X.prog X.w) X.A X.xe none (EP X pins σ Q) (.ref s2.heap.objs.size) s3.heap.objs.size) { s3 with heap := h₁, toks := s2.toks + ([] : List (Str × Value)).length } := by
    refine codeAny_loop rfl (fun n s' => ∃ i ys H', Inv (blk X N' scope cl s3.heap.objs.size fp s3 H3) [] (fr σ) H' s' ∧ tn i s'.heap ∧ (∀ b ∈ fp, H' b = none) ∧ W i n ys H') ?_ m0 ⟨0, [], H3, IB, stB, fn, w0⟩
    rintro n s4 ⟨i, ys, H4, I4, st4, fr4, w4⟩
    show wpAny _ _ ((compTurn (.ListComp elt [⟨tg, iter, [], 0⟩] scope pos) 0 (.ref it) (.ref s2.heap.objs.size) (compEnvC scope cl s3.heap.objs.size X.env)).onRaise (fun x => do noteFrame x (compEnvC scope cl s3.heap.objs.size X.env); theTreesLotGoes x)) _ _ s4
    refine wpAny_noted ?_
    rw [compTurn_list1]
    refine wpAny_bind (wpAny_standAt (wpAny_bind ?_))
    rcases turn i n ys H4 w4 with ⟨stop, qn⟩ | ⟨go, hz, step⟩
    · refine thn (T.done (blk X N' scope cl s3.heap.objs.size fp s3 H3) rfl rfl rfl hc i [] s4 (fr σ) H4 _ I4 (stat fr4) st4 stop) fun r s5 ⟨hr, I5⟩ => ?_
      subst hr
      refine wpAny_pure ?_
      obtain ⟨m, hn, _⟩ := I5.loc
      refine ⟨m, hn, fun h' sb => ⟨.ref s2.heap.objs.size, H4, ?_, rfl, qn⟩⟩
      have hb : ∀ b u, b ≠ s3.heap.objs.size → s5.heap.get? b = some u → h'.get? b = some u := fun b u n e => sb.extBut b u n e
      have hlt : ∀ b u, s3.heap.get? b = some u → b ≠ s3.heap.objs.size := fun b u e => Nat.ne_of_lt (Heap.lt_size e)
      have B := I5.base
      refine I3.call' (s' := { s5 with heap := h' }) (ch := fp) I5.os ⟨fun b o e n1 n2 n3 => hb b o (hlt b o e) (B.keep b o e n1 n2 n3), fun b o e n1 n2 n3 => ?_, B.free, fun b o e n1 => ?_, B.tups, B.frzs, B.tbls⟩ (fun a o e => ?_) I5.bare (fun b hb' => ?_)
      · obtain ⟨sl, z⟩ := B.slot b o e n1 n2 n3
        exact ⟨sl, hb b _ (hlt b o e) z⟩
      · obtain ⟨o', z⟩ := B.there b o e n1
        exact ⟨o', hb b _ (hlt b o e) z⟩
      · have nC : ∀ c u, H4 c = some u → c ≠ s3.heap.objs.size := fun c u z w => by
          have := I5.free
          rw [show (blk X N' scope cl s3.heap.objs.size fp s3 H3).env.locals = s3.heap.objs.size from rfl, ← w, z] at this
          cases this
        refine (I5.hok a o e).stay (fun c u hcu q => hb c u ?_ q) (fun _ q => q) fun _ _ q => q
        rcases hcu with z | z
        · rw [z]; exact nC a o e
        · exact nC c _ z
      · exact ⟨(f2 b hb').2.2.2.1, (f2 b hb').2.1, (f2 b hb').2.2.2.2.1, (f2 b hb').2.2.2.2.2⟩
    · refine thn (T.item (blk X N' scope cl s3.heap.objs.size fp s3 H3) rfl rfl rfl hc i [] s4 (fr σ) H4 _ I4 (stat fr4) st4 go) fun r s5 ⟨u, hr, h5⟩ => ?_
      subst hr
      refine wpAny_bind (thn h5 fun _ s6 ⟨x, H6, I6, r6, y6, st6, fr6⟩ => ?_)
      have I6' := I6.pinned (stat fr6) (T.obj _ _ st6)
      refine wpAny_bind (wpAny_mono (hg s3.heap.objs.size fp s3 H3 _ s6 (fr σ) H6 x u _ I6' r6 (step x H6 y6)) (fun _ s7 ⟨σ7, H7, I7, kp, q7⟩ => ?_) fun _ _ z => z.elim)
      refine wpAny_bind (wpAny_bind (wpAny_mono (he s3.heap.objs.size fp s3 H3 _ s7 σ7 H7 _ I7 q7) (fun v8 s8 ⟨y8, H8, I8, r8, hD, m', hm, w8⟩ => ?_) fun _ _ z => z.elim))
      have ap := mt_append (X := blk X N' scope cl s3.heap.objs.size fp s3 H3) _ s8 σ7 H8 (.ref s2.heap.objs.size) [y8] (.ref s2.heap.objs.size) [v8] (fun _ H9 => W (i + 1) m' (ys ++ [y8]) H9) I8 rfl (.cons r8 .nil) ⟨_, ys, y8, rfl, rfl, hD, hz, w8⟩
      refine wpAny_bind (wpAny_mono ap (fun _ s9 ⟨_, H9, I9, _, w9⟩ => wpAny_pure (wpAny_pure ⟨rfl, m', hm, i + 1, ys ++ [y8], H9, ?_, ?_, ?_, w9⟩)) fun _ _ z => z.elim)
      · exact I9.unpinned.weak (by rw [kp.1]) kp.2
      · exact T.keep _ _ _ st6 fun b hb o e => (I9.pin (b, o) (List.mem_append_right _ (List.mem_append_right _ (mem_pinsAt hb e)))).1
      · intro b hb
        obtain ⟨o, e, d⟩ := T.obj _ _ st6 b hb
        exact (I9.pin (b, o) (List.mem_append_right _ (List.mem_append_right _ (mem_pinsAt hb e)))).2.1
  subst hs3
  exact codeAny_compStart_list loop (T.self X.A 0 _ _ _ stB loop)
end
end L2

set_option linter.all false
set_option maxRecDepth 100000
set_option maxHeartbeats 4000000
namespace L2
open PySem PySem.Spec PyProof.Rows
/-! ### readings by what they give -/
def Gv (t : TE) (σ : St) (H : Hp) (R : V → Hp → Prop) : Prop := ∀ Q : VK, (∀ v H', R v H' → Q v H') → t σ H Q
def GvT (t : TT) (σ : St) (H : Hp) (R : Bool → Hp → Prop) : Prop := ∀ Q : Bool → Hp → Prop, (∀ v H', R v H' → Q v H') → t σ H Q
def GvA (t : TA) (σ : St) (H : Hp) (R : List V → Hp → Prop) : Prop := ∀ Q : List V → Hp → Prop, (∀ v H', R v H' → Q v H') → t σ H Q
/-- one value, the heap as it is -/
def Pu (t : TE) (σ : St) (H : Hp) (v : V) : Prop := ∀ Q : VK, Q v H → t σ H Q
def PuT (t : TT) (σ : St) (H : Hp) (b : Bool) : Prop := ∀ Q : Bool → Hp → Prop, Q b H → t σ H Q
def PuA (t : TA) (σ : St) (H : Hp) (vs : List V) : Prop := ∀ Q : List V → Hp → Prop, Q vs H → t σ H Q
def Is1 (v : V) (H : Hp) : V → Hp → Prop := fun w H' => w = v ∧ H' = H
section
variable {σ : St} {H : Hp} {t ta tb tc : TE} {x y z v : V} {i j : Int} {b c : Bool}
theorem Pu.gv (h : Pu t σ H v) : Gv t σ H (Is1 v H) := fun Q q => h Q (q v H ⟨rfl, rfl⟩)
theorem Pu.gv' {R : V → Hp → Prop} (h : Pu t σ H v) (r : R v H) : Gv t σ H R := fun Q q => h Q (q v H r)
theorem Gv.imp {R R' : V → Hp → Prop} (h : Gv t σ H R) (f : ∀ v H', R v H' → R' v H') : Gv t σ H R' := fun Q q => h Q fun v H' r => q v H' (f v H' r)
theorem pu_v {k : Nat} (h : σ[k]? = some (some v)) : Pu (tVar k) σ H v := fun _ q => ⟨v, h, q⟩
theorem pu_c : Pu (tC v) σ H v := fun _ q => q
theorem pu_add (ha : Pu ta σ H (.int i)) (hb : Pu tb σ H (.int j)) : Pu (tOp (rI0 fun i j => .int (i + j)) ta tb) σ H (.int (i + j)) := fun _ q => ha _ (hb _ ⟨i, j, rfl, rfl, q⟩)
theorem pu_sub (ha : Pu ta σ H (.int i)) (hb : Pu tb σ H (.int j)) : Pu (tOp (rI0 fun i j => .int (i - j)) ta tb) σ H (.int (i - j)) := fun _ q => ha _ (hb _ ⟨i, j, rfl, rfl, q⟩)
theorem pu_mul (ha : Pu ta σ H (.int i)) (hb : Pu tb σ H (.int j)) (hm : IntMulOk i j) : Pu (tOp (rI IntMulOk fun i j => .int (i * j)) ta tb) σ H (.int (i * j)) := fun _ q => ha _ (hb _ ⟨i, j, rfl, rfl, hm, q⟩)
theorem pu_fdiv (ha : Pu ta σ H (.int i)) (hb : Pu tb σ H (.int j)) (hm : CDivB i j) : Pu (tOp (rI CDivB fun i j => .int (i.fdiv j)) ta tb) σ H (.int (i.fdiv j)) := fun _ q => ha _ (hb _ ⟨i, j, rfl, rfl, hm, q⟩)
theorem pu_mod (ha : Pu ta σ H (.int i)) (hb : Pu tb σ H (.int j)) (hm : j ≠ 0) : Pu (tOp (rI (fun _ j => j ≠ 0) fun i j => .int (i.fmod j)) ta tb) σ H (.int (i.fmod j)) := fun _ q => ha _ (hb _ ⟨i, j, rfl, rfl, hm, q⟩)
theorem pu_pow (ha : Pu ta σ H (.int i)) (hb : Pu tb σ H (.int j)) (hm : CPow i j) : Pu (tOp (rI CPow fun i j => .int (i ^ j.toNat)) ta tb) σ H (.int (i ^ j.toNat)) := fun _ q => ha _ (hb _ ⟨i, j, rfl, rfl, hm, q⟩)
theorem pu_neg (ha : Pu ta σ H (.int i)) : Pu (tUn (rU fun i => .int (-i)) ta) σ H (.int (-i)) := fun _ q => ha _ ⟨i, rfl, q⟩
theorem pu_lt (ha : Pu ta σ H (.int i)) (hb : Pu tb σ H (.int j)) : Pu (tOp (rI0 fun i j => .bl (decide (i < j))) ta tb) σ H (.bl (decide (i < j))) := fun _ q => ha _ (hb _ ⟨i, j, rfl, rfl, q⟩)
theorem pu_gt (ha : Pu ta σ H (.int i)) (hb : Pu tb σ H (.int j)) : Pu (tOp (rI0 fun i j => .bl (decide (j < i))) ta tb) σ H (.bl (decide (j < i))) := fun _ q => ha _ (hb _ ⟨i, j, rfl, rfl, q⟩)
theorem pu_ge (ha : Pu ta σ H (.int i)) (hb : Pu tb σ H (.int j)) : Pu (tOp (rI0 fun i j => .bl (decide (j ≤ i))) ta tb) σ H (.bl (decide (j ≤ i))) := fun _ q => ha _ (hb _ ⟨i, j, rfl, rfl, q⟩)
theorem pu_eqI (ha : Pu ta σ H (.int i)) (hb : Pu tb σ H (.int j)) : Pu (tOp rEq ta tb) σ H (.bl (decide (i = j))) := fun _ q => ha _ (hb _ ⟨rfl, by rw [dec_int, Bool.beq_eq_decide_eq]; exact q⟩)
theorem pu_neI (ha : Pu ta σ H (.int i)) (hb : Pu tb σ H (.int j)) : Pu (tOp rNe ta tb) σ H (.bl (!decide (i = j))) := fun _ q => ha _ (hb _ ⟨rfl, by rw [dec_int, Bool.beq_eq_decide_eq]; exact q⟩)
theorem pu_neB (ha : Pu ta σ H (.bl b)) (hb : Pu tb σ H (.bl c)) : Pu (tOp rNe ta tb) σ H (.bl (!(b == c))) := fun _ q => ha _ (hb _ ⟨rfl, by rw [dec_bl]; exact q⟩)
theorem pu_ixT {K : PySem.W.Frag} {p : Addr} {xs : List V} (ha : Pu ta σ H (.ref p)) (hb : Pu tb σ H (.int i)) (h : SqT K H p xs) (e : atI xs i = some v) : Pu (tOp (rIxT K) ta tb) σ H v := fun _ q => ha _ (hb _ ⟨p, xs, i, v, rfl, rfl, h, e, q⟩)
theorem pu_ixL {K : PySem.W.Frag} {p : Addr} {xs : List V} (ha : Pu ta σ H (.ref p)) (hb : Pu tb σ H (.int i)) (h : SqL K H p xs) (e : atI xs i = some v) : Pu (tOp (rIxL K) ta tb) σ H v := fun _ q => ha _ (hb _ ⟨p, xs, i, v, rfl, rfl, h, e, q⟩)
theorem pa_n : PuA tNil σ H [] := fun _ q => q
theorem pa_c {tr : TA} {vs : List V} (ha : Pu ta σ H x) (hr : PuA tr σ H vs) : PuA (tCons ta tr) σ H (x :: vs) := fun _ q => ha _ (hr _ q)
theorem pu_lenL {K : PySem.W.Frag} {p : Addr} {ys : List V} {t : TA} (ha : PuA t σ H [.ref p]) (h : SqL K H p ys) : Pu (tCB (fun xs H Q => ∃ p ys, xs = [.ref p] ∧ (SqL K H p ys ∨ SqT K H p ys) ∧ Q (.int ys.length) H) t) σ H (.int ys.length) := fun _ q => ha _ ⟨p, ys, rfl, .inl h, q⟩
theorem pu_lenT {K : PySem.W.Frag} {p : Addr} {ys : List V} {t : TA} (ha : PuA t σ H [.ref p]) (h : SqT K H p ys) : Pu (tCB (fun xs H Q => ∃ p ys, xs = [.ref p] ∧ (SqL K H p ys ∨ SqT K H p ys) ∧ Q (.int ys.length) H) t) σ H (.int ys.length) := fun _ q => ha _ ⟨p, ys, rfl, .inr h, q⟩
theorem pu_abs {t : TA} (ha : PuA t σ H [.int i]) : Pu (tCB (fun xs H Q => ∃ i, xs = [.int i] ∧ Q (.int (if i < 0 then -i else i)) H) t) σ H (.int (i.natAbs : Int)) := fun _ q => ha _ ⟨i, rfl, by
  rw [show (if i < 0 then -i else i) = (i.natAbs : Int) by split <;> omega]; exact q⟩
theorem pu_isi {K : PySem.W.Frag} {n : String} {u : Value} {t : TA} (ha : PuA t σ H [x, .ty n]) (ty : TyOf K H x u) (e : PySem.W.kitOne K u (.type n) = some b) :
    Pu (tCB (fun xs H Q => ∃ x n t b, xs = [x, .ty n] ∧ TyOf K H x t ∧ PySem.W.kitOne K t (.type n) = some b ∧ Q (.bl b) H) t) σ H (.bl b) := fun _ q => ha _ ⟨x, n, u, b, rfl, ty, e, q⟩
/-! tests -/
theorem pt_t (h : Pu t σ H (.bl b)) : PuT (tTest t) σ H b := fun _ q => h _ ⟨b, rfl, q⟩
theorem pt_b (h : Pu t σ H (.bl b)) : PuT (tB t) σ H b := fun _ q => h _ ⟨b, rfl, q⟩
theorem pt_n {t : TT} (h : PuT t σ H b) : PuT (tNot t) σ H (!b) := fun _ q => h _ q
theorem pt_and {t u : TT} (h : PuT t σ H b) (g : b = true → PuT u σ H c) : PuT (tAnd t u) σ H (b && c) := fun Q q => h _ (by
  cases b with
  | true => rw [if_pos rfl]; exact g rfl Q (by simpa using q)
  | false => rw [if_neg Bool.false_ne_true]; simpa using q)
theorem pt_or {t u : TT} (h : PuT t σ H b) (g : b = false → PuT u σ H c) : PuT (tOr t u) σ H (b || c) := fun Q q => h _ (by
  cases b with
  | false => rw [if_neg Bool.false_ne_true]; exact g rfl Q (by simpa using q)
  | true => rw [if_pos rfl]; simpa using q)
theorem pu_and (h : Pu ta σ H (.bl b)) (g : b = true → Pu tb σ H (.bl c)) : Pu (tAndV ta tb) σ H (.bl (b && c)) := fun Q q => h _ ⟨b, rfl, by
  cases b with
  | true => rw [if_pos rfl]; exact g rfl Q (by simpa using q)
  | false => rw [if_neg Bool.false_ne_true]; simpa using q⟩
theorem pu_not (h : Pu ta σ H (.bl b)) : Pu (tNotV ta) σ H (.bl (!b)) := fun _ q => h _ ⟨b, rfl, q⟩
/-! tests with calls that lay things -/
theorem gt_or {t u : TT} {R R' : Bool → Hp → Prop} (h : GvT t σ H R) (g : ∀ H', R false H' → GvT u σ H' R') (e : ∀ H', R true H' → R' true H') : GvT (tOr t u) σ H R' := fun Q q => h _ fun v H' r => by
  cases v with
  | false => rw [if_neg Bool.false_ne_true]; exact g H' r Q q
  | true => rw [if_pos rfl]; exact q _ _ (e H' r)
theorem gt_and {t u : TT} {R R' : Bool → Hp → Prop} (h : GvT t σ H R) (g : ∀ H', R true H' → GvT u σ H' R') (e : ∀ H', R false H' → R' false H') : GvT (tAnd t u) σ H R' := fun Q q => h _ fun v H' r => by
  cases v with
  | true => rw [if_pos rfl]; exact g H' r Q q
  | false => rw [if_neg Bool.false_ne_true]; exact q _ _ (e H' r)
theorem PuT.gt {t : TT} {R : Bool → Hp → Prop} (h : PuT t σ H b) (r : R b H) : GvT t σ H R := fun Q q => h Q (q _ _ r)
/-! statements -/
variable {te : TE} {D : Ends} {rest u : TS} {k : Nat}
theorem st_set (h : Pu te σ H v) (q : rest D (σ.set k (some v)) H) : tSeq (tAsg te (gName k)) rest D σ H := h _ q
theorem st_setG {R : V → Hp → Prop} (h : Gv te σ H R) (q : ∀ v H', R v H' → rest D (σ.set k (some v)) H') : tSeq (tAsg te (gName k)) rest D σ H := h _ q
theorem st_set1 (h : Pu te σ H v) (q : D.nx (σ.set k (some v)) H) : tAsg te (gName k) D σ H := h _ q
theorem st_setG1 {R : V → Hp → Prop} (h : Gv te σ H R) (q : ∀ v H', R v H' → D.nx (σ.set k (some v)) H') : tAsg te (gName k) D σ H := h _ q
theorem st_ret (h : Pu te σ H v) (q : D.rt v H) : tRet te D σ H := h _ q
theorem st_retG {R : V → Hp → Prop} (h : Gv te σ H R) (q : ∀ v H', R v H' → D.rt v H') : tRet te D σ H := h _ q
theorem st_exprG {R : V → Hp → Prop} (h : Gv te σ H R) (q : ∀ v H', R v H' → rest D σ H') : tSeq (tDrop te) rest D σ H := h _ q
theorem st_exprG1 {R : V → Hp → Prop} (h : Gv te σ H R) (q : ∀ v H', R v H' → D.nx σ H') : tDrop te D σ H := h _ q
theorem st_if {tc : TT} {t u : TS} (h : PuT tc σ H b) (q1 : b = true → t { D with nx := rest D } σ H) (q2 : b = false → u { D with nx := rest D } σ H) : tSeq (tIfS tc t u) rest D σ H := h _ (by
  cases b with
  | true => rw [if_pos rfl]; exact q1 rfl
  | false => rw [if_neg Bool.false_ne_true]; exact q2 rfl)
theorem st_ifG {tc : TT} {t u : TS} {R : Bool → Hp → Prop} (h : GvT tc σ H R) (q1 : ∀ H', R true H' → t { D with nx := rest D } σ H') (q2 : ∀ H', R false H' → u { D with nx := rest D } σ H') : tSeq (tIfS tc t u) rest D σ H := h _ fun b H' r => by
  cases b with
  | true => rw [if_pos rfl]; exact q1 H' r
  | false => rw [if_neg Bool.false_ne_true]; exact q2 H' r
theorem st_ifG1 {tc : TT} {t u : TS} {R : Bool → Hp → Prop} (h : GvT tc σ H R) (q1 : ∀ H', R true H' → t D σ H') (q2 : ∀ H', R false H' → u D σ H') : tIfS tc t u D σ H := h _ fun b H' r => by
  cases b with
  | true => rw [if_pos rfl]; exact q1 H' r
  | false => rw [if_neg Bool.false_ne_true]; exact q2 H' r
/-! calls -/
variable {sp : Sp} {E : XK}
theorem pu_call {t : TA} {vs : List V} (h : PuA t σ H vs) (hs : ∀ Q, Q v H → sp (vs ++ []) H Q E) : Pu (tCall sp [] E t) σ H v := fun Q q => h _ (hs Q q)
theorem gv_call {t : TA} {vs : List V} {R : V → Hp → Prop} (h : PuA t σ H vs) (hs : ∀ Q : VK, (∀ v H', R v H' → Q v H') → sp (vs ++ []) H Q E) : Gv (tCall sp [] E t) σ H R := fun Q q => h _ (hs Q q)
theorem gv_callA {t : TA} {R : V → Hp → Prop} {RA : List V → Hp → Prop} (h : GvA t σ H RA) (hs : ∀ vs H1, RA vs H1 → ∀ Q : VK, (∀ v H', R v H' → Q v H') → sp (vs ++ []) H1 Q E) : Gv (tCall sp [] E t) σ H R := fun Q q => h _ fun vs H1 r => hs vs H1 r Q q
theorem ga_nil : GvA tNil σ H (fun vs H' => vs = [] ∧ H' = H) := fun Q q => q _ _ ⟨rfl, rfl⟩
theorem ga_cons {tr : TA} {R1 : V → Hp → Prop} {R2 : V → Hp → List V → Hp → Prop} (h : Gv ta σ H R1) (g : ∀ x H1, R1 x H1 → GvA tr σ H1 (R2 x H1)) :
    GvA (tCons ta tr) σ H (fun vs H' => ∃ x H1 r, vs = x :: r ∧ R1 x H1 ∧ R2 x H1 r H') := fun Q q => h _ fun x H1 r1 => g x H1 r1 _ fun r H' r2 => q _ _ ⟨x, H1, r, rfl, r1, r2⟩
/-! new tuples and lists -/
theorem gv_tup {t : TA} {vs : List V} (h : PuA t σ H vs) (hz : vs.length ≤ sizeLine) : Gv (tTup t) σ H (fun v H' => ∃ p, H p = none ∧ v = .ref p ∧ H' = upd H p (.tup vs)) := fun Q q => h _ ⟨hz, fun p hp => q _ _ ⟨p, hp, rfl, rfl⟩⟩
theorem gv_lst {t : TA} {vs : List V} (h : PuA t σ H vs) (hz : vs.length ≤ sizeLine) : Gv (tLst t) σ H (fun v H' => ∃ p, H p = none ∧ v = .ref p ∧ H' = upd H p (.lst vs)) := fun Q q => h _ ⟨hz, fun p hp => q _ _ ⟨p, hp, rfl, rfl⟩⟩
end
/-! ### frames of the heap -/
theorem Same.upd {H : Hp} {p : Addr} {o : HO} (h : H p = none) : Same H (upd H p o) := fun b u e => by rw [upd_ne (ne_of_none e h)]; exact e
/-- all is as it was but at one place -/
def SameB (l : Addr) (H H' : Hp) : Prop := ∀ b o, H b = some o → b ≠ l → H' b = some o
theorem Same.b {H H' : Hp} {l : Addr} (e : Same H H') : SameB l H H' := fun b o h _ => e b o h
theorem SameB.refl (l : Addr) (H : Hp) : SameB l H H := fun _ _ h _ => h
theorem SameB.trans {l : Addr} {H H1 H2 : Hp} (a : SameB l H H1) (b : SameB l H1 H2) : SameB l H H2 := fun c o h n => b c o (a c o h n) n
theorem SameB.upd {l : Addr} {H : Hp} {o : HO} : SameB l H (upd H l o) := fun b u e n => by rw [upd_ne n]; exact e
/-! ### defs -/
structure Fn (K : PySem.W.Frag) (mg : Str → Option Value) (x : Str) (st : Stmt) (f : Addr) (fd : FuncData) (ps : List Str) : Prop where
  F : Fun K x x st f fd
  b : Binds K fd ps []
  m : mg x = some (.ref f)
section
variable {X : Cx} {x : Str} {st : Stmt} {f : Addr} {fd : FuncData} {ps : List Str} {sp : Sp} {k j : Nat} {e : Expr} {es : List Expr} {t : TA} {p pos : Pos}
theorem pe_fn (T : Fn X.K X.mg x st f fd ps) (G : FnOk X.prog X.w X.K X.mg X.base CX0 k f fd ps sp) (hr : Room j X.A) (hj : k ≤ j) (ha : PA X (e :: es) t) (hg : Gl X x := by rfl) (hdb : (x == ("__debug__" : Str)) = false := by decide)
    (he : starEach (e :: es) X.env = (false, eval e X.env) :: starEach es X.env := by rfl) (hpl : (backTo pos (starEach es X.env)).any (·.1) = false := by rfl) : PE X (.Call (.Name x p) (e :: es) [] pos) (tCall sp [] E0 t) :=
  pe_call G (hr.mono hj) hg T.m T.F.kp T.b .nil pass0 ha hdb he hpl
/-- a type's name -/
theorem pe_ty {n : Str} {T : String} {pos : Pos} (hm : X.mg n = none) (hv : bootBuiltins n = some (.type T)) (hg : Gl X n := by rfl) (hn : n ≠ "__name__" := by decide) (hd : (n == ("__debug__" : Str)) = false := by decide) : PE X (.Name n pos) (tC (.ty T)) :=
  pe_bltn hg hm hv rfl hn hd
end
/-! ### the forms one uses -/
end L2

set_option linter.all false
namespace L2
/-! ### lowest terms -/
end L2

set_option linter.all false
namespace L2
/-! ### points of the plane by three numbers -/
end L2

set_option linter.all false
set_option maxRecDepth 100000
set_option maxHeartbeats 4000000
namespace L2
open PySem PySem.Spec PyProof.Rows
section
variable {X : Cx}
def rGetL (K : PySem.W.Frag) : V → V → Hp → VK → Prop := fun x y H Q => ∃ p xs i v, x = .ref p ∧ y = .int i ∧ 0 ≤ i ∧ SqL K H p xs ∧ atI xs i = some v ∧ Q v H
theorem get_list : PGet X (rGetL X.K) := by
  intro pins s σ H x y v u Q I rx ry h
  obtain ⟨p, xs, i, z, rfl, rfl, h0, hq, he, q⟩ := h
  cases rx
  obtain ⟨t, rfl⟩ := ry
  obtain ⟨its, r, pl, hz⟩ := I.list hq
  obtain ⟨j, h1, h2, h3, h4, h5⟩ := atI_get he
  obtain ⟨w, ew, rw'⟩ := r.get h2
  have hn := line63
  have hj : i.toNat = j := by
    rw [seqIndex_of h0 h5] at h1
    exact Option.some.inj h1
  exact wpAny_getItem_list pl.isList h0 (by omega) (by rw [hj]; simpa using ew) ⟨z, H, I, rw', q⟩
end
section
variable {σ : St} {H : Hp} {D : Ends} {rest : TS} {te to ti : TE} {v : V} {p : Addr} {xs : List V} {k i : Int} {j : Nat}
theorem st_put (h : Pu te σ H v) (ho : Pu to σ H (.ref p)) (hi : Pu ti σ H (.int k)) (hp : H p = some (.lst xs)) (hj : ixN xs.length k = some j) (q : rest D σ (upd H p (.lst (xs.set j v)))) : tSeq (tAsg te (gSub to ti rSetL)) rest D σ H :=
  h _ (ho _ (hi _ ⟨p, xs, k, j, rfl, rfl, hp, hj, q⟩))
theorem st_put1 (h : Pu te σ H v) (ho : Pu to σ H (.ref p)) (hi : Pu ti σ H (.int k)) (hp : H p = some (.lst xs)) (hj : ixN xs.length k = some j) (q : D.nx σ (upd H p (.lst (xs.set j v)))) : tAsg te (gSub to ti rSetL) D σ H :=
  h _ (ho _ (hi _ ⟨p, xs, k, j, rfl, rfl, hp, hj, q⟩))
theorem st_augI {K : PySem.W.Frag} {f : Int → Int → Int} {a b : Int} (ho : Pu to σ H (.ref p)) (hi : Pu ti σ H (.int k)) (h0 : 0 ≤ k) (hp : H p = some (.lst xs)) (ha : atI xs k = some (.int a)) (h : Pu te σ H (.int b)) (hj : ixN xs.length k = some j)
    (q : rest D σ (upd H p (.lst (xs.set j (.int (f a b)))))) : tSeq (tAugS to ti te (rGetL K) (ipI f) rSetL) rest D σ H :=
  ho _ (hi _ ⟨p, xs, k, .int a, rfl, rfl, h0, SqL.of hp, ha, h _ ⟨a, b, rfl, rfl, p, xs, k, j, rfl, rfl, hp, hj, q⟩⟩)
theorem st_while {c : TT} {tb : TS} (Pv : St → Hp → Prop) (μ : St → Hp → Nat) (h0 : Pv σ H)
    (hs : ∀ σ H, Pv σ H → ∃ b, PuT c σ H b ∧ (b = true → tb { D with nx := fun σ' H' => Pv σ' H' ∧ μ σ' H' < μ σ H, ct := fun σ' H' => Pv σ' H' ∧ μ σ' H' < μ σ H, bk := rest D } σ H) ∧ (b = false → rest D σ H)) :
    tSeq (tWhile c tb) rest D σ H := by
  refine ⟨fun m σ H => m = μ σ H ∧ Pv σ H, ⟨_, rfl, h0⟩, ?_⟩
  rintro m σ H ⟨rfl, p⟩
  obtain ⟨b, hb, h1, h2⟩ := hs σ H p
  refine hb _ ?_
  cases b with
  | true => rw [if_pos rfl]; exact ⟨_, fun σ' H' ⟨p', l⟩ => ⟨_, l, rfl, p'⟩, h1 rfl⟩
  | false => rw [if_neg Bool.false_ne_true]; exact h2 rfl
/-- for k in range(n) -/
theorem st_range {g : TG} {tb : TS} {ta : TA} {n : Int} (ha : PuA ta σ H [.int n]) (h1 : -(2 ^ 62) ≤ n) (h2 : n < 2 ^ 62) (Pv : Nat → St → Hp → Prop) (h0 : Pv 0 σ H)
    (hs : ∀ (i : Nat) σ H, i < n.toNat → Pv i σ H → g (.int (0 + i)) σ H fun σ2 H2 => tb { D with nx := Pv (i + 1), ct := Pv (i + 1), bk := rest D } σ2 H2) (hd : ∀ σ H, Pv n.toNat σ H → rest D σ H) :
    tSeq (tFor (iRng1 ta) g tb) rest D σ H :=
  ha _ ⟨n, rfl, h1, h2, for_range (D := { D with nx := rest D }) Pv h0 hs hd⟩
theorem st_rangeG {g : TG} {tb : TS} {ta : TA} {R : List V → Hp → Prop} (ha : GvA ta σ H R)
    (hr : ∀ vs H1, R vs H1 → ∃ n : Int, vs = [.int n] ∧ -(2 ^ 62) ≤ n ∧ n < 2 ^ 62 ∧ ∃ Pv : Nat → St → Hp → Prop, Pv 0 σ H1 ∧
    (∀ (i : Nat) σ H, i < n.toNat → Pv i σ H → g (.int (0 + i)) σ H fun σ2 H2 => tb { D with nx := Pv (i + 1), ct := Pv (i + 1), bk := rest D } σ2 H2) ∧ (∀ σ H, Pv n.toNat σ H → rest D σ H)) :
    tSeq (tFor (iRng1 ta) g tb) rest D σ H :=
  ha _ fun vs H1 r => by
    obtain ⟨n, rfl, h1, h2, Pv, h0, hs, hd⟩ := hr vs H1 r
    exact ⟨n, rfl, h1, h2, for_range (D := { D with nx := rest D }) Pv h0 hs hd⟩
/-- for x in xs -/
theorem st_list {K : PySem.W.Frag} {g : TG} {tb : TS} {a : Addr} (ha : Pu te σ H (.ref a)) (Pv : Nat → St → Hp → Prop) (h0 : Pv 0 σ H) (hl : ∀ i σ H, i ≤ xs.length → Pv i σ H → SqL K H a xs)
    (hs : ∀ (i : Nat) x σ H, xs[i]? = some x → Pv i σ H → g x σ H fun σ2 H2 => tb { D with nx := Pv (i + 1), ct := Pv (i + 1), bk := rest D } σ2 H2) (hd : ∀ σ H, Pv xs.length σ H → rest D σ H) :
    tSeq (tFor (iList K te) g tb) rest D σ H :=
  ha _ ⟨a, rfl, ⟨xs, hl 0 σ H (Nat.zero_le _) h0⟩, for_list (D := { D with nx := rest D }) Pv h0 hl hs hd⟩
end
theorem Bd.small {i : Int} {n : Nat} (h : i.natAbs < 2 ^ 64 := by decide) (e : 64 ≤ n := by decide) : Bd n i := Bd.mono (m := 64) h e
/-! ### no cell in a block -/
theorem noCells {names : List (Str × NameKind)} {cl : List (Str × Addr)} (h : (names.all fun p => p.2 != .cell && p.2 != .free) = true) : ∀ y, (names.lookup y = some .cell ∨ names.lookup y = some .free) → ∃ c, cl.lookup y = some c := by
  intro y hy
  exfalso
  have key : ∀ (l : List (Str × NameKind)) (k : NameKind), l.lookup y = some k → ∃ p ∈ l, p.2 = k := by
    intro l k
    induction l with
    | nil => intro e; cases e
    | cons p r ih =>
      intro e
      rw [List.lookup_cons] at e
      split at e
      · exact ⟨p, List.mem_cons_self, Option.some.inj e⟩
      · obtain ⟨q, hq, eq⟩ := ih e
        exact ⟨q, List.mem_cons_of_mem _ hq, eq⟩
  rw [List.all_eq_true] at h
  rcases hy with e | e
  · obtain ⟨p, hp, eq⟩ := key _ _ e
    have := h p hp
    rw [eq] at this
    exact absurd this (by decide)
  · obtain ⟨p, hp, eq⟩ := key _ _ e
    have := h p hp
    rw [eq] at this
    exact absurd this (by decide)
/-! ### the greatest common divisor -/
theorem fmod_lt {x y : Int} (h2 : 0 < y) : 0 ≤ x.fmod y ∧ x.fmod y < y := by
  rw [Int.fmod_eq_emod_of_nonneg _ (Int.le_of_lt h2)]
  exact ⟨Int.emod_nonneg _ (by omega), Int.emod_lt_of_pos _ h2⟩
/-! ### more statements -/
section
variable {σ : St} {H : Hp} {D : Ends} {rest : TS} {te : TE} {b : Bool} {k : Nat} {v0 : V}
theorem st_ifN {tc : TT} {t : TS} (h : PuT tc σ H b) (q1 : b = true → t { D with nx := rest D } σ H) (q2 : b = false → rest D σ H) : tSeq (tIfS tc t tNext) rest D σ H := st_if h q1 q2
theorem st_ifNG {tc : TT} {t : TS} {R : Bool → Hp → Prop} (h : GvT tc σ H R) (q1 : ∀ H', R true H' → t { D with nx := rest D } σ H') (q2 : ∀ H', R false H' → rest D σ H') : tSeq (tIfS tc t tNext) rest D σ H := st_ifG h q1 q2
theorem st_ifNG1 {tc : TT} {t : TS} {R : Bool → Hp → Prop} (h : GvT tc σ H R) (q1 : ∀ H', R true H' → t D σ H') (q2 : ∀ H', R false H' → D.nx σ H') : tIfS tc t tNext D σ H := st_ifG1 h q1 q2
theorem st_ifSet {tc : TT} {R : V → Hp → Prop} (hc : PuT tc σ H b) (he : b = true → Gv te σ H R) (h0 : σ.set k (some v0) = σ) (r0 : b = false → R v0 H) (q : ∀ v H', R v H' → rest D (σ.set k (some v)) H') :
    tSeq (tIfS tc (tAsg te (gName k)) tNext) rest D σ H := by
  refine st_if hc (fun e => st_setG1 (he e) q) fun e => ?_
  have := q v0 H (r0 e)
  rw [h0] at this
  exact this
end
section
variable {σ : St} {H : Hp} {D : Ends} {rest : TS} {te to : TE} {l : Addr} {xs : List V} {K : PySem.W.Frag}
theorem st_app1 {R : V → Hp → Prop} (ho : Pu to σ H (.ref l)) (hl : H l = some (.lst xs)) (he : Gv te σ H R) (q : ∀ v H', R v H' → ∃ ys, H' l = some (.lst ys) ∧ ys.length < sizeLine ∧ D.nx σ (upd H' l (.lst (ys ++ [v])))) :
    tDrop (tBM K "list" rAppend to (tCons te tNil)) D σ H :=
  ho _ ⟨.inl ⟨rfl, _, SqL.of hl⟩, he _ fun v H' r => by
    obtain ⟨ys, h1, h2, h3⟩ := q v H' r
    exact ⟨l, ys, v, rfl, rfl, h1, h2, h3⟩⟩
end
/-! ### comprehensions by what they give -/
section
variable {σ : St} {H : Hp} {te tl : TE} {fr : St → St} {k : Nat} {K : PySem.W.Frag}
/-- over a range, by what holds between two turns -/
theorem gv_compR {ta : TA} {n : Int} (Pv : Addr → Nat → List V → Hp → Prop) (ha : PuA ta σ H [.int n]) (h1 : -(2 ^ 62) ≤ n) (h2 : n < 2 ^ 62) (hk : ∀ x, KeepS (fr σ) ((fr σ).set k (some x)))
    (h0 : ∀ D, H D = none → Pv D 0 [] (upd H D (.lst [])))
    (hs : ∀ D (i : Nat) ys H', H D = none → i < n.toNat → Pv D i ys H' → ys.length < sizeLine ∧ Gv te ((fr σ).set k (some (.int (0 + i)))) H' (fun y H4 => H4 D = some (.lst ys) ∧ Pv D (i + 1) (ys ++ [y]) (upd H4 D (.lst (ys ++ [y]))))) :
    Gv (tComp (iRng1 ta) fr (gName k) te) σ H (fun v H' => ∃ D ys, H D = none ∧ v = .ref D ∧ Pv D n.toNat ys H') := by
  intro Q g
  refine ha _ ⟨n, rfl, h1, h2, fun D hD => ?_⟩
  refine ⟨fun i m ys H' => m = n.toNat - i ∧ i ≤ n.toNat ∧ Pv D i ys H', ⟨_, rfl, Nat.zero_le _, h0 D hD⟩, ?_⟩
  rintro i m ys H' ⟨rfl, hi, p⟩
  by_cases hlt : i < n.toNat
  · obtain ⟨z1, z2⟩ := hs D i ys H' hD hlt p
    refine .inr ⟨hlt, z1, fun x H3 y => ?_⟩
    obtain ⟨e, y⟩ := y
    subst e y
    exact ⟨hk _, z2 _ fun v H4 r => ⟨r.1, n.toNat - (i + 1), by omega, rfl, hlt, r.2⟩⟩
  · have e : i = n.toNat := by omega
    subst e
    exact .inl ⟨Nat.le_refl _, g _ _ ⟨D, ys, hD, rfl, p⟩⟩
/-- all(..) of a list of bools, laid by the argument -/
theorem gv_all {R : V → Hp → Prop} (bs : List Bool) (h : Gv te σ H R) (f : ∀ v H', R v H' → ∃ p : Addr, v = .ref p ∧ SqL K H' p (bs.map V.bl)) :
    Gv (tCB (fun xs H Q => ∃ (p : Addr) (bs : List Bool), xs = [.ref p] ∧ SqL K H p (bs.map V.bl) ∧ Q (.bl (bs.all id)) H) (tCons te tNil)) σ H (fun v H' => (∃ p : Addr, R (.ref p) H') ∧ v = .bl (bs.all id)) := by
  intro Q g
  refine h _ fun v H' r => ?_
  obtain ⟨p, rfl, hp⟩ := f v H' r
  exact ⟨p, bs, rfl, hp, g _ _ ⟨⟨p, r⟩, rfl⟩⟩
theorem gv_andG {ta tb : TE} {R R' : V → Hp → Prop} (h : Gv ta σ H R) (f : ∀ v H', R v H' → ∃ c, v = .bl c ∧ (c = true → Gv tb σ H' R') ∧ (c = false → R' (.bl false) H')) : Gv (tAndV ta tb) σ H R' := by
  intro Q g
  refine h _ fun v H' r => ?_
  obtain ⟨c, rfl, h1, h2⟩ := f v H' r
  refine ⟨c, rfl, ?_⟩
  cases c with
  | true => rw [if_pos rfl]; exact h1 rfl Q g
  | false => rw [if_neg Bool.false_ne_true]; exact g _ _ (h2 rfl)
end
/-! ### tuples in lists -/
/-! ### the hand of a law -/
def HandAt (H : Hp) (hd sc : Addr) : Prop := ∃ (ns : List Int) (i b c p q : Int), H hd = some (.lst [.ref sc, .int i, .int b, .int c, .int p, .int q]) ∧ H sc = some (.lst (ns.map V.int)) ∧ 0 ≤ i
theorem HandAt.ne {H : Hp} {hd sc : Addr} {ns : List Int} {i b c p q : Int} (h1 : H hd = some (.lst [.ref sc, .int i, .int b, .int c, .int p, .int q])) (h2 : H sc = some (.lst (ns.map V.int))) : sc ≠ hd := by
  intro e
  subst e
  rw [h1] at h2
  cases ns with
  | nil => simp at h2
  | cons n r => simp at h2
theorem HandAt.same {H H' : Hp} {hd sc : Addr} (h : HandAt H hd sc) (e : Same H H') : HandAt H' hd sc := by
  obtain ⟨ns, i, b, c, p, q, h1, h2, h0⟩ := h
  exact ⟨ns, i, b, c, p, q, e _ _ h1, e _ _ h2, h0⟩
theorem HandAt.ls {H : Hp} {hd sc : Addr} (h : HandAt H hd sc) : ∃ ys, H hd = some (.lst ys) := by
  obtain ⟨ns, i, b, c, p, q, h1, _⟩ := h
  exact ⟨_, h1⟩
theorem HandAt.fresh {H : Hp} {hd sc l : Addr} (h : HandAt H hd sc) (hl : H l = none) : l ≠ hd ∧ l ≠ sc := by
  obtain ⟨ns, i, b, c, p, q, h1, h2, _⟩ := h
  exact ⟨Ne.symm (ne_of_none h1 hl), Ne.symm (ne_of_none h2 hl)⟩
theorem HandAt.upd {H : Hp} {hd sc l : Addr} {o : HO} (h : HandAt H hd sc) (n : l ≠ hd ∧ l ≠ sc) : HandAt (upd H l o) hd sc := by
  obtain ⟨ns, i, b, c, p, q, h1, h2, h0⟩ := h
  exact ⟨ns, i, b, c, p, q, by rw [upd_ne (Ne.symm n.1)]; exact h1, by rw [upd_ne (Ne.symm n.2)]; exact h2, h0⟩
end L2

set_option linter.all false
set_option maxRecDepth 100000
set_option maxHeartbeats 4000000
namespace L2
open PySem PySem.Spec PyProof.Rows
/-! ### sums of fractions -/
/-! ### a comprehension that catches one name -/
theorem lookup_one {y y' : Str} {c c' : Addr} (h : List.lookup y' [(y, c)] = some c') : y' = y ∧ c' = c := by
  rw [List.lookup_cons] at h
  split at h
  · rename_i e
    exact ⟨eq_of_beq e, (Option.some.inj h).symm⟩
  · cases h
theorem lookup_mem {names : List (Str × NameKind)} {y : Str} {k : NameKind} (e : names.lookup y = some k) : (y, k) ∈ names := by
  induction names with
  | nil => cases e
  | cons p r ih =>
    rw [List.lookup_cons] at e
    split at e
    · rename_i h
      have h' : y = p.1 := eq_of_beq h
      have e' : p.2 = k := Option.some.inj e
      rw [h', ← e']
      exact List.mem_cons_self
    · exact List.mem_cons_of_mem _ (ih e)
/-! ### lists of points -/
end L2

set_option linter.all false
namespace L2
/-! ### what two sides share -/
/-! ### the order of points -/
/-! ### on one line -/
end L2

set_option linter.all false
set_option maxRecDepth 100000
set_option maxHeartbeats 4000000
namespace L2
open PySem PySem.Spec PyProof.Rows
/-! ### tuples of points -/
section
variable {σ : St} {H : Hp} {ta tb te : TE} {K : PySem.W.Frag} {x y : V} {b : Bool} {D : Ends} {rest : TS}
theorem st_tupl {g : TG} {tb : TS} {a : Addr} {xs : List V} (ha : Pu te σ H (.ref a)) (Pv : Nat → St → Hp → Prop) (h0 : Pv 0 σ H) (hl : ∀ i σ H, i ≤ xs.length → Pv i σ H → SqT K H a xs)
    (hs : ∀ (i : Nat) x σ H, xs[i]? = some x → Pv i σ H → g x σ H fun σ2 H2 => tb { D with nx := Pv (i + 1), ct := Pv (i + 1), bk := rest D } σ2 H2) (hd : ∀ σ H, Pv xs.length σ H → rest D σ H) :
    tSeq (tFor (iTup K te) g tb) rest D σ H :=
  ha _ ⟨a, rfl, ⟨xs, hl 0 σ H (Nat.zero_le _) h0⟩, for_tup (D := { D with nx := rest D }) Pv h0 hl hs hd⟩
end
section
variable {σ : St} {H : Hp} {t : TA} {RA : List V → Hp → Prop} {R : V → Hp → Prop}
theorem gv_tupA (h : GvA t σ H RA) (f : ∀ vs H1, RA vs H1 → vs.length ≤ sizeLine ∧ ∀ p, H1 p = none → R (.ref p) (upd H1 p (.tup vs))) : Gv (tTup t) σ H R := fun Q q => h _ fun vs H1 r => ⟨(f vs H1 r).1, fun p hp => q _ _ ((f vs H1 r).2 p hp)⟩
theorem gv_lstA (h : GvA t σ H RA) (f : ∀ vs H1, RA vs H1 → vs.length ≤ sizeLine ∧ ∀ p, H1 p = none → R (.ref p) (upd H1 p (.lst vs))) : Gv (tLst t) σ H R := fun Q q => h _ fun vs H1 r => ⟨(f vs H1 r).1, fun p hp => q _ _ ((f vs H1 r).2 p hp)⟩
end
theorem pu_cast {t : TE} {σ : St} {H : Hp} {v w : V} (h : Pu t σ H v) (e : v = w) : Pu t σ H w := by rw [← e]; exact h
theorem GvT.imp {t : TT} {σ : St} {H : Hp} {R R' : Bool → Hp → Prop} (h : GvT t σ H R) (f : ∀ v H', R v H' → R' v H') : GvT t σ H R' := fun Q q => h Q fun v H' r => q v H' (f v H' r)
/-! ### sizes of what is told -/
end L2

set_option linter.all false
namespace L2
/-! ### just what is shared -/
end L2

set_option linter.all false
set_option maxRecDepth 100000
set_option maxHeartbeats 4000000
namespace L2
open PySem PySem.Spec PyProof.Rows
/-! ### zip -/
section
variable {prog : Program} {w : World} {A : Around} {E : Value → Shared → Prop} {s : Shared}
theorem nx_tup {j t : Addr} {k : Nat} {its : Array Value} {y : Value} {Q : Value → Shared → Prop} (st : s.heap.IsTupleIter j t k) (tu : s.heap.IsTuple t its) (e : its[k]? = some y)
    (q : ∀ h', h'.IsTupleIter j t (k + 1) → Heap.SameBut j s.heap h' → Q y { s with heap := h' }) : wpAny (model prog w) A (Builtin.SmallTypes.nextOf (.ref j)) Q E s := by
  obtain ⟨u, hu, uc, ud⟩ := id st
  obtain ⟨v, hv, _, m, vd⟩ := tu
  unfold Builtin.SmallTypes.nextOf
  refine wpAny_bind (wpAny_callSpecial?_slot (name := Str.ofString "__next__") st.typeIs F.slot_tuple_iterator_next (wpAny_call_entry F.slot_tuple_iterator_next st.typeIs F.entry_tuple_iterator_next ?_ (F.args_tuple_iterator_next_1 _)))
  show wpAny _ _ (field (.ref j) 0 >>= _) _ _ s
  refine wpAny_bind (wpAny_field hu ud (x := .ref t) rfl ?_)
  show wpAny _ _ (ite ((Value.ref t == Value.none) = true) _ _) _ _ s
  rw [if_neg (c := (Value.ref t == Value.none) = true) (by exact Bool.false_ne_true)]
  show wpAny _ _ (field (.ref j) 1 >>= _) _ _ s
  refine wpAny_bind (wpAny_field hu ud (x := .int k 0) rfl ?_)
  refine wpAny_bind (m := seqItems? (.ref t)) (wpAny_seqItems hv vd ?_)
  simp only [Int.toNat_natCast, e]
  refine wpAny_bind (wpAny_setField hu ud (by simp) (wpAny_pure ⟨y, rfl, wpAny_pure (q _ ?_ (Heap.SameBut.update ..))⟩))
  refine ⟨_, Heap.get?_update_self _ hu (Obj.isFreed_of_fields (Obj.data_mapFields ud _)), (Obj.cls_mapFields ..).trans uc, ?_⟩
  rw [Obj.data_mapFields ud]; simp [rawInt]
theorem nx_tupEnd {j t : Addr} {k : Nat} {its : Array Value} {Q : Value → Shared → Prop} (hd : A.handled = none) (st : s.heap.IsTupleIter j t k) (tu : s.heap.IsTuple t its) (e : its[k]? = none)
    (q : ∀ h' x, Heap.ExtBut j s.heap h' → (∃ o, h'.get? x = some o ∧ o.cls = .type "StopIteration") → E (.ref x) { s with heap := h' }) : wpAny (model prog w) A (Builtin.SmallTypes.nextOf (.ref j)) Q E s := by
  obtain ⟨u, hu, uc, ud⟩ := id st
  obtain ⟨v, hv, _, m, vd⟩ := tu
  unfold Builtin.SmallTypes.nextOf
  refine wpAny_bind (wpAny_callSpecial?_slot (name := Str.ofString "__next__") st.typeIs F.slot_tuple_iterator_next (wpAny_call_entry F.slot_tuple_iterator_next st.typeIs F.entry_tuple_iterator_next ?_ (F.args_tuple_iterator_next_1 _)))
  show wpAny _ _ (field (.ref j) 0 >>= _) _ _ s
  refine wpAny_bind (wpAny_field hu ud (x := .ref t) rfl ?_)
  show wpAny _ _ (ite ((Value.ref t == Value.none) = true) _ _) _ _ s
  rw [if_neg (c := (Value.ref t == Value.none) = true) (by exact Bool.false_ne_true)]
  show wpAny _ _ (field (.ref j) 1 >>= _) _ _ s
  refine wpAny_bind (wpAny_field hu ud (x := .int k 0) rfl ?_)
  refine wpAny_bind (m := seqItems? (.ref t)) (wpAny_seqItems hv vd ?_)
  simp only [Int.toNat_natCast, e]
  refine wpAny_bind (wpAny_rule (wpAny_bind (wpAny_setField hu ud (by simp) ?_)))
  refine wpAny_bind (m := newExc (.type "StopIteration") []) ?_
  simp only [newExc, newTuple]
  refine wpAny_bind (wpAny_newObj_type (wpAny_bind (m := firstArgMember _ _) (wpAny_of_eq (a := Value.none) (by first | rfl | (simp only [firstArgMember]; rfl)) (wpAny_newObj_type ?_ (by size_fits)))) (by size_fits))
  simp only [raiseNew]
  refine wpAny_bind (wpAny_handled ?_)
  first | rw [hd] | rw [show A.in1.handled = none from hd]
  exact wpAny_bind (wpAny_pure (wpAny_throw (q _ _ (((Heap.SameBut.update ..).extBut.push _).push _) ⟨_, Heap.get?_push_size _ rfl, rfl⟩)))
/-- what a zip draws from -/
structure Src (prog : Program) (w : World) (j l : Addr) (tu : Nat → Heap → Prop) (has : Array Value → Heap → Prop) : Prop where
  tk : ∀ k h h', tu k h → (∀ o, h.get? j = some o → h'.get? j = some o) → tu k h'
  hk : ∀ xs h h', has xs h → (∀ o, h.get? l = some o → h'.get? l = some o) → has xs h'
  item : ∀ (A : Around) (k : Nat) (xs : Array Value) (x : Value) (s : Shared) (Q : Value → Shared → Prop) (E : Value → Shared → Prop), tu k s.heap → has xs s.heap → xs[k]? = some x →
    (∀ h', tu (k + 1) h' → Heap.SameBut j s.heap h' → Q x { s with heap := h' }) → wpAny (model prog w) A (Builtin.SmallTypes.nextOf (.ref j)) Q E s
  stop : ∀ (A : Around) (k : Nat) (xs : Array Value) (s : Shared) (Q : Value → Shared → Prop) (E : Value → Shared → Prop), A.handled = none → tu k s.heap → has xs s.heap → xs[k]? = none →
    (∀ h' x, Heap.ExtBut j s.heap h' → (∃ o, h'.get? x = some o ∧ o.cls = .type "StopIteration") → E (.ref x) { s with heap := h' }) → wpAny (model prog w) A (Builtin.SmallTypes.nextOf (.ref j)) Q E s
  obj : ∀ k h, tu k h → ∃ o, h.get? j = some o ∧ ∀ v, o.data ≠ .cell v
theorem src_tup (j l : Addr) : Src prog w j l (fun k h => h.IsTupleIter j l k) (fun xs h => h.IsTuple l xs) where
  tk := fun k h h' st f => by
    obtain ⟨o, e, r⟩ := st
    exact ⟨o, f o e, r⟩
  hk := fun xs h h' st f => by
    obtain ⟨o, e, r⟩ := st
    exact ⟨o, f o e, r⟩
  item := fun A k xs x s Q E st hl e q => nx_tup st hl e q
  stop := fun A k xs s Q E hd st hl e q => nx_tupEnd hd st hl e q
  obj := fun k h st => by
    obtain ⟨o, e, _, d⟩ := st
    exact ⟨o, e, fun v z => by rw [d] at z; cases z⟩
variable {z TI TO i1 i2 l1 l2 : Addr} {k1 k2 : Nat} {xs ys : Array Value} {x y a b : Value} {tu1 tu2 : Nat → Heap → Prop} {has1 has2 : Array Value → Heap → Prop}
/-- what the second turn of the loop within a zip's step leaves: the pair that is kept has both things, the zip waits to hand it out -/
theorem zz_out {Q : Value → Shared → Prop} {g : Heap} (hz : IsZip g z TI TO .ellipsis) (q : ∀ g', IsZip g' z TI TO (rawInt g.objs.size) → IsPair g' g.objs.size x y → (∀ c o, c ≠ z → g.get? c = some o → g'.get? c = some o) → Q (.ref g.objs.size) { s with heap := g' }) :
    wpAny (model prog w) A (newTuple [x, y] >>= fun v => Builtin.SmallTypes.ownedTupleHandOut (.ref z) v >>= fun _ => ret v) (fun fin s' => ∃ v, fin = .done (.ret v) ∧ Q v s') E { s with heap := g } := by
  have zl : z ≠ g.objs.size := Nat.ne_of_lt (Heap.lt_size hz)
  refine wpAny_bind (wpAny_newTuple (wpAny_bind ?_))
  unfold Builtin.SmallTypes.ownedTupleHandOut
  have p0 : IsPair (g.push { cls := .type "tuple", data := .seq #[x, y] }) g.objs.size x y := Heap.get?_push_size _ rfl
  refine wpAny_bind (wpAny_setField_rec (Heap.get?_push_of_some _ hz) (by simp) fun _ z1 b1 => wpAny_setField_rec z1 (by simp) fun _ z2 b2 => wpAny_pure ⟨_, rfl, q _ z2 ?_ fun c o n e => ?_⟩)
  · exact b2.extBut _ _ zl.symm (b1.extBut _ _ zl.symm p0)
  · exact b2.extBut _ _ n (b1.extBut _ _ n (Heap.get?_push_of_some _ e))
/-- one step of a zip over two sources, whichever way it ends -/
theorem zz_turn {Q : Value → Shared → Prop} (D : ZipApart z TI TO i1 i2 l1 l2) (S1 : Src prog w i1 l1 tu1 has1) (S2 : Src prog w i2 l2 tu2 has2) (hz : IsZip s.heap z TI TO .none) (hI : IsPair s.heap TI (.ref i1) (.ref i2)) (hO : IsPair s.heap TO a b)
    (t1 : tu1 k1 s.heap) (t2 : tu2 k2 s.heap) (c1 : has1 xs s.heap) (c2 : has2 ys s.heap) (hd : xs[k1]? = none ∨ ys[k2]? = none → A.handled = none)
    (it : ∀ x y h', xs[k1]? = some x → ys[k2]? = some y → IsZip h' z TI TO (rawInt s.heap.objs.size) → IsPair h' TO x y → tu1 (k1 + 1) h' → tu2 (k2 + 1) h' → IsPair h' s.heap.objs.size x y →
      (∀ c o, c ≠ z ∧ c ≠ TO ∧ c ≠ i1 ∧ c ≠ i2 → s.heap.get? c = some o → h'.get? c = some o) → Q (.ref s.heap.objs.size) { s with heap := h' })
    (en : ∀ h' e, xs[k1]? = none ∨ ys[k2]? = none → (∀ c o, c ≠ z ∧ c ≠ i1 ∧ c ≠ TO ∧ c ≠ i2 → s.heap.get? c = some o → h'.get? c = some o) → (∃ o, h'.get? e = some o ∧ o.cls = .type "StopIteration") → E (.ref e) { s with heap := h' }) :
    wpAny (model prog w) A (Builtin.«zip.__next__» ⟨[.ref z], []⟩) (fun fin s' => ∃ v, fin = .done (.ret v) ∧ Q v s') E s := by
  have rd : ∀ {β : Type} {f : Nat} {x : Value} {k : Value → Sem β} {R : β → Shared → Prop}, (#[Value.none, .bool false, .bool false, .ref TI, .ref TO] : Array Value)[f]? = some x → wpAny (model prog w) A (k x) R E s → wpAny (model prog w) A (field (.ref z) f >>= k) R E s := fun e h => wpAny_bind (wpAny_field hz rfl e h)
  refine rd (f := 2) rfl (rd (f := 3) rfl (wpAny_bind (wpAny_seqItems hI rfl (wpAny_bind (rd (f := 0) rfl (wpAny_pure ?_))))))
  rw [if_pos (by rfl)]
  refine wpAny_bind (wpAny_rule (rd (f := 4) rfl (wpAny_bind (wpAny_setField_rec hz (by simp) fun g hg bg => wpAny_bind ?_))))
  have hg' : IsZip g z TI TO .ellipsis := hg
  have hO1 : IsPair g TO a b := bg.extBut _ _ D.TOz hO
  have pass : ∀ {g1 g2 : Heap} {e : Addr}, IsZip g1 z TI TO .ellipsis → (∃ o, g1.get? e = some o ∧ o.cls = .type "StopIteration") → Heap.SameBut z g1 g2 → ∃ o, g2.get? e = some o ∧ o.cls = .type "StopIteration" := fun iz ⟨o, h1, h2⟩ bb => ⟨o, bb.extBut _ _ (fun ez => by rw [ez, iz] at h1; cases h1; simp at h2) h1, h2⟩
  dsimp only [List.zipIdx_cons, List.zipIdx_nil]
  rw [List.forIn_cons]
  refine wpAny_bind (wpAny_bind (wpAny_onRaise (m := Builtin.SmallTypes.nextOf (.ref i1) >>= _) (wpAny_bind ?_)))
  have a1 := S1.tk _ _ _ t1 fun o e => bg.extBut _ o D.i1z e
  have a2 := S1.hk _ _ _ c1 fun o e => bg.extBut _ o D.l1z e
  cases hx : xs[k1]? with
  | none => exact S1.stop _ k1 xs { s with heap := g } _ _ (hd (.inl hx)) a1 a2 hx fun g' e bx he => wpAny_setField_rec (bx _ _ D.i1z.symm hg') (by simp) fun g2 _ b2 => en g2 e (.inl hx) (fun c o n f => b2.extBut _ _ n.1 (bx _ _ n.2.1 (bg.extBut _ _ n.1 f))) (pass (bx _ _ D.i1z.symm hg') he b2)
  | some x =>
    refine S1.item _ k1 xs x { s with heap := g } _ _ a1 a2 hx fun g' u1 bx => wpAny_pure ?_
    have o1 : IsPair g' TO a b := bx.extBut _ _ D.TOi1 hO1
    refine wpAny_bind (wpAny_seqItems o1 rfl (wpAny_bind (wpAny_updateSeq_pair o1 fun g2 o2 b2 => wpAny_bind (wpAny_letGo (wpAny_pure ?_)))))
    dsimp only
    rw [List.forIn_cons]
    refine wpAny_bind (wpAny_bind (wpAny_onRaise (m := Builtin.SmallTypes.nextOf (.ref i2) >>= _) (wpAny_bind ?_)))
    have up : ∀ c o, c ≠ z → c ≠ i1 → c ≠ TO → s.heap.get? c = some o → g2.get? c = some o := fun c o n1 n2 n3 e => b2.extBut _ _ n3 (bx.extBut _ _ n2 (bg.extBut _ _ n1 e))
    have d1 := S2.tk _ _ _ t2 fun o e => up _ o D.i2z D.i12.symm D.TOi2.symm e
    have d2 := S2.hk _ _ _ c2 fun o e => up _ o D.l2z D.l2i1 D.l2TO e
    have zg2 : IsZip g2 z TI TO .ellipsis := b2.extBut _ _ D.TOz.symm (bx.extBut _ _ D.i1z.symm hg')
    cases hy : ys[k2]? with
    | none => exact S2.stop _ k2 ys { s with heap := g2 } _ _ (hd (.inr hy)) d1 d2 hy fun g' e by_ he => wpAny_setField_rec (by_ _ _ D.i2z.symm zg2) (by simp) fun g3 _ b3 => en g3 e (.inr hy) (fun c o n f => b3.extBut _ _ n.1 (by_ _ _ n.2.2.2 (up c o n.1 n.2.1 n.2.2.1 f))) (pass (by_ _ _ D.i2z.symm zg2) he b3)
    | some y =>
      refine S2.item _ k2 ys y { s with heap := g2 } _ _ d1 d2 hy fun g3 u2 by_ => wpAny_pure ?_
      have o3 : IsPair g3 TO x b := by_.extBut _ _ D.TOi2 o2
      refine wpAny_bind (wpAny_seqItems o3 rfl (wpAny_bind (wpAny_updateSeq_pair o3 fun g4 o4 b4 => wpAny_bind (wpAny_letGo (wpAny_pure ?_)))))
      dsimp only
      rw [List.forIn_nil]
      have o4' : IsPair g4 TO x y := o4
      have sz : g4.objs.size = s.heap.objs.size := b4.1.trans (by_.1.trans (b2.1.trans (bx.1.trans bg.1)))
      have v1 := S1.tk _ _ _ u1 fun o e => b4.extBut _ o D.TOi1.symm (by_.extBut _ o D.i12 (b2.extBut _ o D.TOi1.symm e))
      have v2 := S2.tk _ _ _ u2 fun o e => b4.extBut _ o D.TOi2.symm e
      refine wpAny_pure (wpAny_bind (wpAny_seqItems o4' rfl (zz_out (s := s) (x := x) (y := y) (b4.extBut _ _ D.TOz.symm (by_.extBut _ _ D.i2z.symm zg2)) fun g5 e1 e2 e3 => ?_)))
      rw [sz] at e1 e2 ⊢
      exact it x y g5 hx hy e1 (e3 _ _ D.TOz o4') (S1.tk _ _ _ v1 fun o e => e3 _ o D.i1z e) (S2.tk _ _ _ v2 fun o e => e3 _ o D.i2z e) e2 fun c o n f => e3 _ _ n.1 (b4.extBut _ _ n.2.1 (by_.extBut _ _ n.2.2.2 (up c o n.1 n.2.2.1 n.2.1 f)))
theorem zz_nextItem {Q : Option Value → Shared → Prop} (D : ZipApart z TI TO i1 i2 l1 l2) (S1 : Src prog w i1 l1 tu1 has1) (S2 : Src prog w i2 l2 tu2 has2) (hz : IsZip s.heap z TI TO .none) (hI : IsPair s.heap TI (.ref i1) (.ref i2)) (hO : IsPair s.heap TO a b)
    (t1 : tu1 k1 s.heap) (t2 : tu2 k2 s.heap) (c1 : has1 xs s.heap) (c2 : has2 ys s.heap) (ex : xs[k1]? = some x) (ey : ys[k2]? = some y)
    (q : ∀ h', IsZip h' z TI TO (rawInt s.heap.objs.size) → IsPair h' TO x y → tu1 (k1 + 1) h' → tu2 (k2 + 1) h' → IsPair h' s.heap.objs.size x y →
      (∀ c o, c ≠ z → c ≠ TO → c ≠ i1 → c ≠ i2 → s.heap.get? c = some o → h'.get? c = some o) → Q (some (.ref s.heap.objs.size)) { s with heap := h' }) : wpAny (model prog w) A (pyNext (.ref z)) Q E s := by
  have ty : s.TypeIs (.ref z) "zip" := ⟨_, hz, rfl⟩
  unfold pyNext
  have no : ¬ (xs[k1]? = none ∨ ys[k2]? = none) := by rw [ex, ey]; rintro (h | h) <;> cases h
  refine wpAny_bind (wpAny_attempt (wpAny_callSpecial?_slot (name := Str.ofString "__next__") ty F.slot_zip_next (wpAny_call_entry F.slot_zip_next ty F.entry_zip_next (zz_turn D S1 S2 hz hI hO t1 t2 c1 c2 (fun h => absurd h no) (fun x' y' h' e1 e2 a1 a2 a3 a4 a5 a6 => ?_) fun _ _ h => absurd h no) (F.args_zip_next_1 _))))
  rw [ex] at e1
  rw [ey] at e2
  cases e1
  cases e2
  exact wpAny_pure (q h' a1 a2 a3 a4 a5 fun c o n1 n2 n3 n4 => a6 c o ⟨n1, n2, n3, n4⟩)
theorem zz_nextEnd {Q : Option Value → Shared → Prop} (hd : A.handled = none) (D : ZipApart z TI TO i1 i2 l1 l2) (S1 : Src prog w i1 l1 tu1 has1) (S2 : Src prog w i2 l2 tu2 has2) (hz : IsZip s.heap z TI TO .none) (hI : IsPair s.heap TI (.ref i1) (.ref i2)) (hO : IsPair s.heap TO a b)
    (t1 : tu1 k1 s.heap) (t2 : tu2 k2 s.heap) (c1 : has1 xs s.heap) (c2 : has2 ys s.heap) (en : xs[k1]? = none ∨ ys[k2]? = none)
    (q : ∀ h', (∀ c o, c ≠ z → c ≠ TO → c ≠ i1 → c ≠ i2 → s.heap.get? c = some o → h'.get? c = some o) → Q none { s with heap := h' }) : wpAny (model prog w) A (pyNext (.ref z)) Q E s := by
  have ty : s.TypeIs (.ref z) "zip" := ⟨_, hz, rfl⟩
  unfold pyNext
  refine wpAny_bind (wpAny_attempt (wpAny_callSpecial?_slot (name := Str.ofString "__next__") ty F.slot_zip_next (wpAny_call_entry F.slot_zip_next ty F.entry_zip_next (zz_turn D S1 S2 hz hI hO t1 t2 c1 c2 (fun _ => hd) (fun x y h' e1 e2 => ?_) fun h' e _ hk he => ?_) (F.args_zip_next_1 _))))
  · rw [e1, e2] at en
    rcases en with h | h <;> cases h
  · obtain ⟨o, ho, hc⟩ := he
    exact wpAny_bind (wpAny_isInstance (T := "StopIteration") (b := true) ⟨o, ho, hc⟩ isSubtype_stop (wpAny_pure (q _ fun c o n1 n2 n3 n4 => hk c o ⟨n1, n3, n2, n4⟩)))
end
/-! ### the invariant behind a turn of several objects -/
section
variable {X : Cx} {pins : List (Addr × Obj)} {σ : St} {H : Hp} {s : Shared} {h' : Heap} {ch : List Addr}
theorem Inv.turnedL (I : Inv X pins σ H s) (k : ∀ b o, b ∉ ch → s.heap.get? b = some o → h'.get? b = some o) (f : ∀ b ∈ ch, FpOk X pins H b) : Inv X pins σ H { s with heap := h' } := by
  have no : ∀ b u, H b = some u → b ∉ ch := fun b u e hb => by have := (f b hb).1; rw [e] at this; cases this
  refine I.call' (s' := { s with heap := h' }) (ch := ch) rfl ⟨fun b o e _ _ n => k b o n e, fun b o e _ _ n => ⟨o.slots, k b o n e⟩, fun _ _ _ n _ => n, fun b o e n => ⟨o, k b o n e⟩, fun _ _ e => e, fun _ _ _ e => e, fun b ps e => ⟨#[], by rw [e]; simp⟩⟩ (fun a o e => ?_) I.bare fun b hb => ?_
  · refine (I.hok a o e).stay (fun c u hc q => k c u ?_ q) (fun _ q => q) fun _ _ q => q
    rcases hc with rfl | hc
    · exact no _ _ e
    · exact no _ _ hc
  · exact ⟨(f b hb).2.2.2.1, (f b hb).2.1, (f b hb).2.2.2.2.1, (f b hb).2.2.2.2.2⟩
theorem Inv.turnedT {x y : V} {u v : Value} (I : Inv X pins σ H s) (k : ∀ b o, b ∉ ch → s.heap.get? b = some o → h'.get? b = some o) (f : ∀ b ∈ ch, FpOk X pins H b) (hT : IsPair h' s.heap.objs.size u v) (ru : RelV x u) (rv : RelV y v) :
    Inv X pins σ (upd H s.heap.objs.size (.tup [x, y])) { s with heap := h' } := by
  have no : ∀ b u, H b = some u → b ∉ ch := fun b u e hb => by have := (f b hb).1; rw [e] at this; cases this
  have hn : H s.heap.objs.size = none := I.hok.fresh (Nat.le_refl _)
  have ne : ∀ {b : Addr} {o : Obj}, s.heap.get? b = some o → b ≠ s.heap.objs.size := fun e => Nat.ne_of_lt (Heap.lt_size e)
  refine I.call' (s' := { s with heap := h' }) (ch := ch) rfl ⟨fun b o e _ _ n => k b o n e, fun b o e _ _ n => ⟨o.slots, k b o n e⟩, fun b o e n _ => by rw [upd_ne (ne e)]; exact n, fun b o e n => ⟨o, k b o n e⟩, fun b xs e => by rw [upd_ne (ne_of_none e hn)]; exact e, fun b o u e => by rw [upd_ne (ne_of_none e hn)]; exact e, fun b ps e => ⟨#[], by rw [upd_ne (ne_of_none e hn), e]; simp⟩⟩ (fun a o e => ?_) I.bare fun b hb => ?_
  · by_cases ha : a = s.heap.objs.size
    · subst ha
      rw [upd_same] at e
      cases e
      exact ⟨by show 2 ≤ sizeLine; decide, [u, v], .cons ru (.cons rv .nil), ⟨_, hT, rfl, _, rfl⟩⟩
    · rw [upd_ne ha] at e
      refine (I.hok a o e).stay (fun c u hc q => k c u ?_ q) (fun c q => by rw [upd_ne (ne_of_none q hn)]; exact q) fun c xs q => by rw [upd_ne (ne_of_none q hn)]; exact q
      rcases hc with rfl | hc
      · exact no _ _ e
      · exact no _ _ hc
  · exact ⟨(f b hb).2.2.2.1, (f b hb).2.1, (f b hb).2.2.2.2.1, (f b hb).2.2.2.2.2⟩
end
/-! ### zip walked -/
/-! ### zip made -/
section
variable {prog : Program} {w : World} {A : Around} {E : Value → Shared → Prop} {s : Shared}
theorem zip_apart {n a b : Nat} (ha : a < n) (hb : b < n) : ZipApart (n + 4) (n + 2) (n + 3) n (n + 1) a b := by
  constructor <;> (first | exact Nat.ne_of_lt (by omega) | exact Nat.ne_of_gt (by omega))
end
end L2

set_option linter.all false
set_option maxRecDepth 100000
set_option maxHeartbeats 4000000
namespace L2
open PySem PySem.Spec PyProof.Rows
/-! ### how far a point lies, how long its bottom is -/
/-! ### more readings -/
theorem pg_tupK {X : Cx} {K : PySem.W.Frag} {es : List Expr} {k : Nat} {t : TGs} {n : Nat} {pos : Pos} (hK : X.K = K) (hc : X.calm = true) (h : PGs X es t) (hn : (assignEach es X.env).length = n := by rfl) (hst : (assignEach es X.env).findIdx? (·.1) = none := by rfl) : PG X (.Tuple es k pos) (gTup K n t) := by
  subst hK; exact pg_tup hc h hn hst
/-! ### lists of sides -/
end L2

set_option linter.all false
namespace L2
/-! ### one place, one tuple -/
end L2

set_option linter.all false
namespace L2
end L2

set_option linter.all false
set_option maxRecDepth 100000
set_option maxHeartbeats 4000000
namespace L2
open PySem PySem.Spec PyProof.Rows
/-! ### exceptions: how one lies behind a call -/
/-! ### own classes of exceptions: each straight under one that is straight under ValueError -/
/-! ### raise -/
/-! ### a def that may raise -/
/-! ### try: name = f(..) except C as n -/
/-! ### isinstance of an exception -/
section
open PySem.W PySem.Calls Builtin Builtin.ObjectAttr Builtin.Getset_descriptor
variable {K : PySem.W.Frag} {x C : Addr}
end
end L2

set_option linter.all false
set_option maxRecDepth 100000
set_option maxHeartbeats 4000000
namespace L2
open PySem PySem.Spec PyProof.Rows
/-! ### dict(a list of pairs), the keys tuples -/
end L2

set_option linter.all false
set_option maxRecDepth 100000
set_option maxHeartbeats 4000000
namespace L2
open PySem PySem.Spec PyProof.Rows
end L2

set_option linter.all false
set_option maxRecDepth 100000
set_option maxHeartbeats 4000000
namespace L2
open PySem PySem.Spec PyProof.Rows
end L2

set_option linter.all false
set_option maxRecDepth 100000
set_option maxHeartbeats 4000000
namespace L2
open PySem PySem.Spec PyProof.Rows
/-! ### the keys walked -/
end L2

set_option linter.all false
set_option maxRecDepth 100000
set_option maxHeartbeats 4000000
namespace L2
open PySem PySem.Spec PyProof.Rows
theorem boot_dict : bootBuiltins "dict" = some (.type "dict") := by decide +kernel
end L2

set_option linter.all false
set_option maxRecDepth 100000
set_option maxHeartbeats 4000000
namespace L2
open PySem PySem.Spec PyProof.Rows
end L2

set_option linter.all false
set_option maxRecDepth 100000
set_option maxHeartbeats 4000000
namespace L2
open PySem PySem.Spec PyProof.Rows
end L2

set_option linter.all false
set_option maxRecDepth 100000
set_option maxHeartbeats 4000000
namespace L2
open PySem PySem.Spec PyProof.Rows PySem.W
end L2

set_option linter.all false
set_option maxRecDepth 100000
set_option maxHeartbeats 4000000
namespace L2
open PySem PySem.Spec PyProof.Rows
end L2

set_option linter.all false
set_option maxRecDepth 100000
set_option maxHeartbeats 4000000
namespace L2
open PySem PySem.Spec PyProof.Rows
theorem cutV_drop (xs : List V) {k : Nat} (h : k ≤ xs.length) : cutV xs (some (k : Int)) none = xs.drop k := by
  have e1 : HT.sIx xs.length 0 (some (k : Int)) = k := by
    unfold HT.sIx
    simp only []
    split <;> omega
  have e2 : HT.sIx xs.length xs.length none = xs.length := rfl
  unfold cutV
  rw [e1, e2]
  exact List.take_of_length_le (by rw [List.length_drop]; exact Nat.le_refl _)
theorem same_updNew {H H' : Hp} {r : Addr} {o : HO} (s : Same H H') (h : H r = none) : Same H (L2.upd H' r o) := fun b u e => by
  rw [upd_ne (ne_of_none e h)]
  exact s b u e
section
variable {σ : St} {H : Hp} {D : Ends} {rest : TS} {te to : TE} {l : Addr} {xs : List V} {K : PySem.W.Frag}
theorem gv_from {k : Nat} {tk : TE} (ho : Pu to σ H (.ref l)) (hk : Pu tk σ H (.int k)) (hl : SqL K H l xs) (hkl : k ≤ xs.length) : Gv (tSl (rSlL K) to (tPart tk) tNoPart) σ H (fun v H' => ∃ p, H p = none ∧ v = .ref p ∧ H' = upd H p (.lst (xs.drop k))) := fun Q q =>
  ho _ (hk _ ⟨k, rfl, l, xs, rfl, hl, fun p hp => by rw [cutV_drop xs hkl]; exact q _ _ ⟨p, hp, rfl, rfl⟩⟩)
end
end L2

set_option linter.all false
set_option maxRecDepth 100000
set_option maxHeartbeats 4000000
namespace L2
open PySem PySem.Spec PyProof.Rows
end L2

set_option linter.all false
set_option maxRecDepth 100000
set_option maxHeartbeats 4000000
namespace L2
open PySem PySem.Spec PyProof.Rows
section
variable {σ : St} {H : Hp} {D : Ends} {rest : TS} {to ti te : TE} {l : Addr} {xs : List V} {K : PySem.W.Frag} {i : Nat} {a : Int} {b : Int}
theorem st_inc1 (h : σ[i]? = some (some (.int a))) (he : Pu te σ H (.int b)) (q : D.nx (σ.set i (some (.int (a + b)))) H) : tAug i te (ipI fun i j => i + j) D σ H := ⟨_, h, he _ ⟨a, b, rfl, rfl, q⟩⟩
end
end L2

set_option linter.all false
set_option maxRecDepth 100000
set_option maxHeartbeats 4000000
namespace L2
open PySem PySem.Spec PyProof.Rows
section
variable {X : Cx}
/-- a comprehension with two own names and one caught name -/
theorem pe_lcompC2 {x1 x2 y : Str} {tg elt iter : Expr} {g : TG} {scope : Scope} {c : Addr} {pos : Pos} {wi : TI} {te : TE} (j : Nat)
    (hc : X.calm = true) (hi : PI X tg iter wi)
    (hg : ∀ C fp s0 H0, PG (blk X [x1, x2, y] scope [(y, c)] C fp s0 H0) tg g) (he : ∀ C fp s0 H0, PE (blk X [x1, x2, y] scope [(y, c)] C fp s0 H0) elt te)
    (hclos : closureFor scope X.env = pure [(y, c)]) (hkind : scope.kind = .function) (hnames : ∀ x ∈ scope.names, x.2 = .local → scope.names.lookup x.1 = some .local) (hcell : ∀ y ∈ scope.names, y.2 ≠ .cell)
    (hcy : X.env.cells.lookup y = some c) (hNj : X.N[j]? = some y) (hk : X.env.kindOf y = some .cell) (hrel : (relabel scope X.env).names.lookup y = some .cell)
    (hall : ((relabel scope X.env).names.all fun p => (p.2 != .cell && p.2 != .free) || p.1 == y) = true)
    (hs : ∀ x, foldedSetIterable iter X.env x = pure x := by intro _; rfl) :
    PE X (.ListComp elt [⟨tg, iter, [], 0⟩] scope pos) (tComp wi (fun σ => [none, none, (σ[j]?).join]) g te) := by
  refine pe_lcomp (N' := [x1, x2, y]) (cl := [(y, c)]) hc hi hg he hclos hkind hnames hcell (fun y' c' h => ?_) (fun y' h => ?_) (fun _ _ => rfl) (fun σ i y' v e1 e2 => ?_) hs
  · obtain ⟨rfl, rfl⟩ := lookup_one h
    exact hcy
  · rw [List.all_eq_true] at hall
    have key : ∀ k, (k = .cell ∨ k = .free) → (relabel scope X.env).names.lookup y' = some k → y' = y := fun k hk e => by
      have := hall _ (lookup_mem e)
      rcases hk with rfl | rfl
      · simpa using this
      · simpa using this
    have e : y' = y := by
      rcases h with h | h
      · exact key _ (.inl rfl) h
      · exact key _ (.inr rfl) h
    subst e
    exact ⟨c, by rw [List.lookup_cons, beq_self_eq_true]⟩
  · match i, e1, e2 with
    | 0, _, e2 => cases e2
    | 1, _, e2 => cases e2
    | 2, e1, e2 =>
      have e1' : y = y' := by simpa using e1
      subst e1'
      have e2' : (σ[j]?).join = some v := by simpa using e2
      refine ⟨j, hNj, ?_, hk, hrel⟩
      cases h : σ[j]? with
      | none => rw [h] at e2'; cases e2'
      | some o => rw [h] at e2'; have : o = some v := e2'; rw [this]
    | i + 3, e1, _ => simp at e1
end
end L2

set_option linter.all false
set_option maxRecDepth 100000
set_option maxHeartbeats 4000000
namespace L2
open PySem PySem.Spec PyProof.Rows
/-! ### rows of points, laid -/
end L2

set_option linter.all false
set_option maxRecDepth 100000
set_option maxHeartbeats 4000000
namespace L2
open PySem PySem.Spec PyProof.Rows
theorem same_none {H H' : Hp} {p : Addr} (s : Same H H') (h : H' p = none) : H p = none := by
  cases e : H p with
  | none => rfl
  | some o => rw [s _ _ e] at h; cases h
end L2

set_option linter.all false
set_option maxRecDepth 100000
set_option maxHeartbeats 4000000
namespace L2
open PySem PySem.Spec PyProof.Rows
end L2

set_option linter.all false
set_option maxRecDepth 100000
set_option maxHeartbeats 4000000
namespace L2
open PySem PySem.Spec PyProof.Rows
end L2

set_option linter.all false
set_option maxRecDepth 100000
set_option maxHeartbeats 4000000
namespace L2
open PySem PySem.Spec PyProof.Rows
section
variable {σ : St} {H : Hp} {D : Ends} {rest : TS} {ta tb te to : TE} {b : Bool} {k : Nat} {v0 : V} {i j : Int} {l : Addr} {xs : List V} {K : PySem.W.Frag} {t : TA}
theorem st_ifRG {tc : TT} {u : TS} {RB : Bool → Hp → Prop} (R : St → Hp → Prop) (hc : GvT tc σ H RB) (h1 : ∀ H1, RB true H1 → ∀ D' : Ends, (∀ σ' H', R σ' H' → D'.nx σ' H') → D'.rt = D.rt → u D' σ H1) (h0 : ∀ H1, RB false H1 → R σ H1) (q : ∀ σ' H', R σ' H' → rest D σ' H') : tSeq (tIfS tc u tNext) rest D σ H :=
  st_ifNG hc (fun H1 e => h1 H1 e _ q rfl) (fun H1 e => q _ _ (h0 H1 e))
end
theorem Same.rfl' {H : Hp} : Same H H := fun _ _ e => e
end L2

set_option linter.all false
set_option maxRecDepth 100000
set_option maxHeartbeats 4000000
namespace L2
open PySem PySem.Spec PyProof.Rows
/-- of a def that is never reached nothing is asked -/
def spNo : Sp := fun _ _ _ _ => False
theorem Fun.okNo {P : Program} {w : World} {K : PySem.W.Frag} {mg : Str → Option Value} {base : Heap} {x qual : Str} {st : Stmt} {f : Addr} {fd : FuncData} {N ps : List Str} (F : Fun K x qual st f fd) (S : FnScope N ps (defScope st)) : FnOk P w K mg base CX0 1 f fd ps spNo :=
  F.ok (k := 0) S (fun _ _ _ _ h => h.elim) fun _ _ _ _ _ _ _ _ _ h => h.elim
/-! ### {} -/
/-! ### try: f(..) except C as n: .., with return -/
/-! ### isinstance of an exception with a tuple of classes -/
end L2

set_option linter.all false
set_option maxRecDepth 100000
set_option maxHeartbeats 4000000
namespace L2
open PySem PySem.Spec PyProof.Rows
section
variable {es : List Expr} {env : Env}
theorem star_tup {a b c} : starEach (.Tuple a b c :: es) env = (false, eval (.Tuple a b c) env) :: starEach es env := rfl
theorem star_lst {a b} : starEach (.List a b :: es) env = (false, eval (.List a b) env) :: starEach es env := rfl
theorem star_con {a b c} : starEach (.Constant a b c :: es) env = (false, eval (.Constant a b c) env) :: starEach es env := rfl
theorem star_bin {a b c d} : starEach (.BinOp a b c d :: es) env = (false, eval (.BinOp a b c d) env) :: starEach es env := rfl
theorem star_name {a b} : starEach (.Name a b :: es) env = (false, eval (.Name a b) env) :: starEach es env := rfl
theorem star_call {a b c d} : starEach (.Call a b c d :: es) env = (false, eval (.Call a b c d) env) :: starEach es env := rfl
theorem star_sub {a b c} : starEach (.Subscript a b c :: es) env = (false, eval (.Subscript a b c) env) :: starEach es env := rfl
theorem star_cmp {a b c d} : starEach (.Compare a b c d :: es) env = (false, eval (.Compare a b c d) env) :: starEach es env := rfl
theorem star_lc {a b c d} : starEach (.ListComp a b c d :: es) env = (false, eval (.ListComp a b c d) env) :: starEach es env := rfl
end
theorem len2 : 2 ≤ sizeLine := by decide
theorem len3 : 3 ≤ sizeLine := by decide
end L2

set_option linter.all false
set_option maxHeartbeats 4000000
namespace L2
/-! ### rounds -/

/-! ### sums round a ring -/
end L2

set_option linter.all false
set_option maxRecDepth 100000
set_option maxHeartbeats 4000000
namespace L2
open PySem PySem.Spec PyProof.Rows

section
variable {σ : St} {H : Hp} {K : PySem.W.Frag} {to te : TE} {a : Addr} {xs ys : List V} {t : TA} {R : Hp → Nat → Addr → Prop} {fr : St → St}
theorem cutV_take (xs : List V) {k : Nat} (h : k ≤ xs.length) : cutV xs none (some (k : Int)) = xs.take k := by
  have e1 : HT.sIx xs.length 0 none = 0 := rfl
  have e2 : HT.sIx xs.length xs.length (some (k : Int)) = k := by
    unfold HT.sIx
    simp only []
    split <;> omega
  unfold cutV
  rw [e1, e2]
  rfl
end
/-! ### sides, laid -/
end L2

set_option linter.all false
set_option maxRecDepth 100000
set_option maxHeartbeats 4000000
namespace L2
open PySem PySem.Spec PyProof.Rows
end L2

set_option linter.all false
set_option maxRecDepth 100000
set_option maxHeartbeats 4000000
namespace L2
open PySem PySem.Spec PyProof.Rows
/-! ### plain data, laid -/
/-! ### [::-1] -/
section
variable {σ : St} {H : Hp} {D : Ends} {rest : TS} {K : PySem.W.Frag} {to : TE} {a : Addr} {xs : List V}
/-- a while with a measure that one knows of -/
theorem st_whileN {c : TT} {tb : TS} (Pv : Nat → St → Hp → Prop) (h0 : ∃ n, Pv n σ H)
    (hs : ∀ n σ H, Pv n σ H → ∃ RB : Bool → Hp → Prop, GvT c σ H RB ∧ (∀ H1, RB true H1 → tb { D with nx := fun σ' H' => ∃ m, m < n ∧ Pv m σ' H', ct := fun σ' H' => ∃ m, m < n ∧ Pv m σ' H', bk := rest D } σ H1) ∧ (∀ H1, RB false H1 → rest D σ H1)) :
    tSeq (tWhile c tb) rest D σ H := by
  refine ⟨Pv, h0, ?_⟩
  intro m σ H p
  obtain ⟨RB, hb, h1, h2⟩ := hs m σ H p
  refine hb _ fun b H1 r => ?_
  cases b with
  | true => rw [if_pos rfl]; exact ⟨fun σ' H' => ∃ k, k < m ∧ Pv k σ' H', fun σ' H' x => x, h1 _ r⟩
  | false => rw [if_neg Bool.false_ne_true]; exact h2 _ r
end
end L2

set_option linter.all false
set_option maxHeartbeats 4000000
namespace L2
/-! ### points that are drawn, one after another -/
end L2

set_option linter.all false
set_option maxRecDepth 100000
set_option maxHeartbeats 4000000
namespace L2
open PySem PySem.Spec PyProof.Rows
end L2

set_option linter.all false
set_option maxRecDepth 100000
set_option maxHeartbeats 4000000
namespace L2
open PySem PySem.Spec PyProof.Rows
end L2

set_option linter.all false
set_option maxRecDepth 100000
set_option maxHeartbeats 4000000
namespace L2
open PySem PySem.Spec PyProof.Rows
end L2

set_option linter.all false
set_option maxRecDepth 100000
namespace L2
open PySem PySem.StrLaws PySem.Builtin PySem.Builtin.Str
/-! ### texts: what is joined is split again -/
theorem str_ext {x y : Str} (h : x.cps.toList = y.cps.toList) : x = y := by
  cases x; cases y
  simp only at h
  rw [Array.toList_inj.mp h]
theorem len_list (x : Str) : x.cps.toList.length = x.length := by simp [Str.length]
end L2

set_option linter.all false
set_option maxRecDepth 100000
namespace L2
open PySem PySem.StrLaws PySem.Builtin PySem.Builtin.Str PySem.NumText PyProof.Rows
/-! ### numbers as texts -/
theorem app_list (x y : Str) : (x ++ y).cps.toList = x.cps.toList ++ y.cps.toList := by simp [Str.cps_append]
end L2

set_option linter.all false
set_option maxRecDepth 100000
namespace L2
open PySem PySem.Spec PyProof.Rows
/-! texts: methods, slices, f-strings, iteration -/
section
variable {X : Cx}
/-- a module's constant -/
theorem pe_konS {x : Str} {v : Str} {pos : Pos} (hm : ∃ tk, X.mg x = some (.str v tk)) (hg : Gl X x := by rfl) (hd : (x == ("__debug__" : Str)) = false := by decide) : PE X (.Name x pos) (tC (.str v)) := by
  obtain ⟨tk, hm⟩ := hm
  exact pe_glob hg hm ⟨tk, rfl⟩ hd
theorem pe_konI {x : Str} {v : Int} {pos : Pos} (hm : ∃ tk, X.mg x = some (.int v tk)) (hg : Gl X x := by rfl) (hd : (x == ("__debug__" : Str)) = false := by decide) : PE X (.Name x pos) (tC (.int v)) := by
  obtain ⟨tk, hm⟩ := hm
  exact pe_glob hg hm ⟨tk, rfl⟩ hd
theorem vals_strs : ∀ {xs : List Str} {us : List Value}, Vals (xs.map V.str) us → ∃ l : List (Str × Tok), us = strValues l ∧ l.map (·.1) = xs
  | [], _, .nil => ⟨[], rfl, rfl⟩
  | x :: r, _, .cons h t => by
    obtain ⟨tk, rfl⟩ := h
    obtain ⟨l, e1, e2⟩ := vals_strs t
    exact ⟨(x, tk) :: l, by rw [e1]; rfl, by rw [List.map_cons, e2]⟩
theorem mt_join : MtR X "str.join" (fun x xs H Q => ∃ a l ys, x = .str a ∧ xs = [.ref l] ∧ SqL X.K H l (ys.map V.str) ∧ PySem.JoinOk a ys = true ∧ Q (.str (Str.join a ys)) H) := by
  intro pins s σ H x xs v us Q I rx rs h
  obtain ⟨a, l, ys, rfl, rfl, hl, hok, q⟩ := h
  obtain ⟨t, rfl⟩ := rx
  obtain ⟨u, rfl, e⟩ := vals1 rs
  cases e
  obtain ⟨its, r, p, _⟩ := I.list hl
  obtain ⟨ls, rfl, e2⟩ := vals_strs r
  subst e2
  have hok' := hok
  unfold PySem.JoinOk at hok'
  rw [Bool.not_eq_true'] at hok'
  refine call_meets PySem.F.slot_str_join (typeIs_str _ _ _) PySem.F.entry_str_join (PySem.F.args_str_join_2 _ _) (meets_str_join_list a t l ls hok') ⟨p.isList, post_join ls ⟨joinFit_length hok', fun t' k => ?_⟩⟩
  have e3 : Txt.join a (ls.map (·.1)) = Str.join a (ls.map (·.1)) := StrLaws.glued_eq_join _ _
  rw [e3]
  exact ⟨V.str _, H, I.tok _, ⟨_, rfl⟩, q⟩
/-- text[1:] -/
theorem cut1_ix {n : Nat} (h : 1 ≤ n) : Builtin.Str.strSliceIndices (some 1) none 1 n = List.range' 1 (n - 1) := by
  unfold Builtin.Str.strSliceIndices PySem.sliceRange
  have e1 : max 0 (min (1 : Int) (n : Int)) = 1 := by omega
  simp only [show ((1 : Int) > 0) = True from by simp, if_true, show ¬ ((1 : Int) < 0) by decide, if_false, e1, Int.ediv_one]
  have e2 : (if (1 : Int) < (n : Int) then (n : Int) - 1 + 1 - 1 else 0).toNat = n - 1 := by
    split <;> omega
  rw [e2, List.range'_eq_map_range]
  refine List.map_congr_left fun k _ => ?_
  omega
theorem pick_all {α : Type} : ∀ (xs pre : List α), (List.range' pre.length xs.length).filterMap (fun i => (pre ++ xs)[i]?) = xs
  | [], pre => by simp
  | x :: r, pre => by
    rw [List.length_cons, List.range'_succ, List.filterMap_cons]
    have e : (pre ++ x :: r)[pre.length]? = some x := by simp
    rw [e]
    have ih := pick_all r (pre ++ [x])
    rw [List.length_append, List.append_assoc] at ih
    exact congrArg (x :: ·) ih
theorem drop1_map {α : Type} (xs : List α) : (List.range' 1 (xs.length - 1)).filterMap (fun i => xs[i]?) = xs.drop 1 := by
  cases xs with
  | nil => rfl
  | cons x r => exact pick_all r [x]
def rSl1 : V → Option Int → Option Int → Hp → VK → Prop := fun x lo hi H Q => ∃ a, x = .str a ∧ lo = some 1 ∧ hi = none ∧ 1 ≤ a.length ∧ a.length ≤ sizeLine ∧ Q (.str ⟨(a.cps.toList.drop 1).toArray⟩) H
theorem sl_str1 : SlR X rSl1 := by
  intro pins s σ H x v vl vu lo hi sl Q I rx hs pl pu h
  obtain ⟨a, rfl, rfl, rfl, h1, h2, q⟩ := h
  obtain ⟨t, rfl⟩ := rx
  cases pl with
  | int i tk =>
    cases pu
    refine ⟨"str", _, PySem.F.slot_str_getitem.lookup, typeIs_str _ _ _, ?_⟩
    refine wpAny_getItem_str_slice (l := some (1, tk)) (u := none) (st := none) hs rfl ?_
    have e : slicePicked a (some (1, tk)) none none = List.range' 1 (a.length - 1) := cut1_ix h1
    unfold sliceMade
    rw [if_neg (by rw [e, List.length_range']; simp; omega), e]
    have e2 : (List.range' 1 (a.length - 1)).filterMap (fun i => a.cps[i]?) = a.cps.toList.drop 1 := by
      rw [← drop1_map, len_list]
      congr 1
      funext i
      simp
    rw [e2]
    refine ⟨?_, V.str _, H, I.tok _, ⟨_, rfl⟩, q⟩
    show (a.cps.toList.drop 1).toArray.size ≤ sizeLine
    rw [List.size_toArray, List.length_drop, len_list]
    omega
/-- the signs of a text, one by one -/
def Its (x : Str) : It := ⟨fun i _ => i < x.length, fun i H v H' => H' = H ∧ ∃ c, x.cps.toList[i]? = some c ∧ v = .str ⟨#[c]⟩, fun i _ => x.length ≤ i⟩
theorem turn_str {P : Program} {w : World} {K : PySem.W.Frag} {tg : Expr} (x : Str) (t : Tok) (it : Addr) : Turn P w K tg (Its x) [it] it (fun i h => h.IsStrIter it "str_ascii_iterator" x t i) where
  mem := by simp
  obj := fun i h st b hb => by
    have e : b = it := by simpa using hb
    subst e
    obtain ⟨o, e, c, d⟩ := st
    exact ⟨o, e, fun v z => by rw [d] at z; cases z⟩
  keep := fun i h h' st k => by
    obtain ⟨o, e, r⟩ := st
    exact ⟨o, k it (by simp) o e, r⟩
  item := by
    intro X hP hw hK hc i pins s σ H E I hf st hg
    subst hP hw hK
    have hi : i < x.cps.toList.length := by rw [len_list]; exact hg
    obtain ⟨f0, f1, f2, f3, f4, f5⟩ := hf it (by simp)
    have hx : x.cps[i]? = some x.cps.toList[i] := by
      rw [← Array.getElem?_toList]
      exact List.getElem?_eq_getElem hi
    refine wpAny_pyNext_ascii_item st hx fun h' st' sb => ?_
    have I1 : Inv X pins σ H { s with heap := h', toks := s.toks + 1 } := I.turned (t' := s.toks + 1) (fun b o hb e => (sb.2 b hb).trans e) f0 f1 f3 f4 f5
    obtain ⟨o, e, c, d⟩ := id st'
    exact ⟨_, rfl, go_of (s := { s with heap := h', toks := s.toks + 1 }) e c d (by decide) ⟨V.str ⟨#[x.cps.toList[i]]⟩, H, I1, ⟨_, rfl⟩, ⟨rfl, _, List.getElem?_eq_getElem hi, rfl⟩, st', fun b hb => (hf b hb).1⟩⟩
  done := by
    intro X hP hw hK hc i pins s σ H E I hf st hg
    subst hP hw hK
    obtain ⟨f0, f1, f2, f3, f4, f5⟩ := hf it (by simp)
    have hx : x.cps[i]? = none := by
      rw [← Array.getElem?_toList, List.getElem?_eq_none_iff, len_list]
      exact hg
    exact wpAny_pyNext_ascii_end (I.ok.hd hc) st hx fun h' eb => ⟨rfl, I.turned (t' := s.toks) (fun b o hb e => eb b o hb e) f0 f1 f3 f4 f5⟩
  self := fun _ _ _ _ _ st h => wpAny_pyIter_striter_ascii st h
def iStr (tl : TE) : TI := fun σ H R => tl σ H fun x H1 => ∃ a, x = .str a ∧ (∀ c ∈ a.cps.toList, c < 128) ∧ R (Its a) H1
theorem pi_str {tg l : Expr} {tl : TE} (hl : PE X l tl) : PI X tg l (iStr tl) := by
  intro pins s σ H R I h
  refine thn (hl pins s σ H _ I h) fun v s1 ⟨x, H1, I1, r1, a, e, ha, q⟩ => ?_
  subst e
  obtain ⟨t, rfl⟩ := r1
  have hal : a.cps.all (· < 128) = true := by
    rw [← Array.all_toList, List.all_eq_true]
    intro c hc
    simpa using ha c hc
  refine wpAny_pyIter_ascii hal ?_
  refine ⟨s1.heap.objs.size, [s1.heap.objs.size], _, _, H1, rfl, I1.kept (t' := s1.toks) fun b o e => Heap.get?_push_of_some _ e, turn_str a t _, ⟨_, Heap.get?_push_size _ rfl, rfl, rfl⟩, fun b hb => ?_, q⟩
  have e : b = s1.heap.objs.size := by simpa using hb
  subst e
  exact I1.fpOk (Nat.le_refl _) (I1.hok.fresh (Nat.le_refl _))
end
end L2

set_option linter.all false
set_option maxRecDepth 100000
namespace L2
open PySem PySem.Spec PyProof.Rows
section
variable {σ : St} {H : Hp} {te tl : TE} {fr : St → St} {k : Nat} {K : PySem.W.Frag}
/-- over a text's signs -/
theorem gv_compS {a : Str} (f : Nat → V) (hl : Pu tl σ H (.str a)) (ha : ∀ c ∈ a.cps.toList, c < 128) (hz : a.length ≤ 1000) (hk : ∀ x, KeepS (fr σ) ((fr σ).set k (some x)))
    (hs : ∀ c ∈ a.cps.toList, ∀ H', Same H H' → Pu te ((fr σ).set k (some (.str ⟨#[c]⟩))) H' (f c)) : Gv (tComp (iStr tl) fr (gName k) te) σ H (fun v H' => ∃ D, H D = none ∧ v = .ref D ∧ H' = upd H D (.lst (a.cps.toList.map f))) := by
  intro Q g
  refine hl _ ⟨a, rfl, ha, fun D hD => ?_⟩
  refine ⟨fun i m ys H' => m = a.length - i ∧ i ≤ a.length ∧ ys = (a.cps.toList.take i).map f ∧ H' = upd H D (.lst ys), ⟨_, rfl, Nat.zero_le _, rfl, rfl⟩, ?_⟩
  rintro i m ys H' ⟨rfl, hi, rfl, rfl⟩
  have s' : Same H (upd H D (.lst ((a.cps.toList.take i).map f))) := Same.upd hD
  by_cases hlt : i < a.length
  · refine .inr ⟨hlt, ?_, fun x H3 y => ?_⟩
    · rw [List.length_map, List.length_take]; exact small1000 (by omega)
    obtain ⟨e, c, ex, e2⟩ := y
    subst e e2
    refine ⟨hk _, hs c (List.mem_of_getElem? ex) _ s' _ ⟨upd_same, a.length - (i + 1), by omega, rfl, hlt, ?_, ?_⟩⟩
    · rw [List.take_succ, ex]; simp
    · rw [upd_upd]
  · have e : i = a.length := by omega
    subst e
    refine .inl ⟨Nat.le_refl _, g _ _ ⟨D, hD, rfl, ?_⟩⟩
    rw [← len_list, List.take_length]
end
end L2

set_option linter.all false
set_option maxRecDepth 100000
set_option maxHeartbeats 4000000
namespace L2
open PySem PySem.Spec PyProof.Rows
/-! ### a comprehension whose element may raise -/
/-! the heap behind a raise within a comprehension -/
end L2

set_option linter.all false
set_option maxRecDepth 100000
namespace L2
open PySem PySem.StrLaws PySem.Builtin PySem.Builtin.Str PyProof.Rows
/-! ### fractions, points and their texts -/
/-- joined texts are not too long -/
theorem fold_le {sep : Str} {b : Nat} : ∀ (ts : List Str) (a : Nat), (∀ t ∈ ts, t.length ≤ b) → ts.foldl (fun n t => n + t.length + sep.length) a ≤ a + ts.length * (b + sep.length)
  | [], a, _ => by simp
  | t :: r, a, h => by
    have ih := fold_le (sep := sep) (b := b) r (a + t.length + sep.length) fun u hu => h u (List.mem_cons_of_mem _ hu)
    have ht := h t (by simp)
    rw [List.foldl_cons, List.length_cons, Nat.succ_mul]
    omega
theorem joinOk_of {sep : Str} {ts : List Str} {b m : Nat} (h : ∀ t ∈ ts, t.length ≤ b) (hm : ts.length ≤ m) (hb : m * (b + sep.length) ≤ 16000000) : PySem.JoinOk sep ts = true := by
  have h1 := fold_le (sep := sep) ts 0 h
  have h2 : ts.length * (b + sep.length) ≤ m * (b + sep.length) := Nat.mul_le_mul_right _ hm
  unfold PySem.JoinOk Builtin.Str.tooLong
  rw [List.foldl_toArray']
  · rw [Bool.not_eq_true', decide_eq_false_iff_not]
    have : sizeLine = 16777216 := by decide
    omega
  · rfl
/-! ### readings of texts -/
section
variable {σ : St} {H : Hp} {te tl to : TE} {K : PySem.W.Frag}
/-- sep.join(what is laid) -/
theorem gv_join {a : Str} {R R' : V → Hp → Prop} (ho : ∀ H', Pu to σ H' (.str a)) (h : Gv tl σ H R) (hr : ∀ v H', R v H' → ∃ l ys, v = .ref l ∧ H' l = some (.lst (ys.map V.str)) ∧ PySem.JoinOk a ys = true ∧ R' (.str (Str.join a ys)) H') :
    Gv (tBM K "str" (fun x xs H Q => ∃ a l ys, x = .str a ∧ xs = [.ref l] ∧ SqL K H l (ys.map V.str) ∧ PySem.JoinOk a ys = true ∧ Q (.str (Str.join a ys)) H) to (tCons tl tNil)) σ H R' := fun Q q =>
  ho H _ ⟨rfl, h _ fun v H' r => by
    obtain ⟨l, ys, rfl, h1, h2, h3⟩ := hr v H' r
    exact ⟨a, l, ys, rfl, rfl, SqL.of h1, h2, q _ _ h3⟩⟩
theorem pu_addS {ta tb : TE} {x y : Str} (ha : Pu ta σ H (.str x)) (hb : Pu tb σ H (.str y)) (hz : x.length + y.length ≤ sizeLine) : Pu (tOp (fun x y H Q => ∃ i j, x = .str i ∧ y = .str j ∧ i.length + j.length ≤ sizeLine ∧ Q (.str (i ++ j)) H) ta tb) σ H (.str (x ++ y)) := fun _ q => ha _ (hb _ ⟨x, y, rfl, rfl, hz, q⟩)
theorem pu_eqStr {ta tb : TE} {x y : Str} (ha : Pu ta σ H (.str x)) (hb : Pu tb σ H (.str y)) : Pu (tOp rEq ta tb) σ H (.bl (decide (x = y))) := fun _ q => ha _ (hb _ ⟨rfl, by
  have e : decide (V.str x = V.str y) = decide (x = y) := by
    by_cases z : x = y
    · simp [z]
    · simp [z]
  rw [e]
  exact q⟩)
theorem pu_lenS {t : TA} {z : Str} (ha : PuA t σ H [.str z]) (hz : z.length ≤ sizeLine) : Pu (tCB (fun xs H Q => ∃ z, xs = [.str z] ∧ z.length ≤ sizeLine ∧ Q (.int z.length) H) t) σ H (.int z.length) := fun _ q => ha _ ⟨z, rfl, hz, q⟩
theorem pu_inS {ta tb : TE} {c : Nat} {y : Str} (ha : Pu ta σ H (.str ⟨#[c]⟩)) (hb : Pu tb σ H (.str y)) : Pu (tOp (fun x y H Q => ∃ i j, x = .str i ∧ y = .str j ∧ Q (.bl (!(Builtin.Str.occurrences j i 0 j.length 1).isEmpty)) H) ta tb) σ H (.bl (decide (c ∈ y.cps.toList))) := fun _ q => ha _ (hb _ ⟨_, _, rfl, rfl, by rw [found_one]; exact q⟩)
theorem pu_cut1 {a : Str} {tn : TO} (ho : Pu to σ H (.str a)) (h1 : 1 ≤ a.length) (h2 : a.length ≤ sizeLine) : Pu (tSl rSl1 to (tPart (tC (.int 1))) tNoPart) σ H (.str ⟨(a.cps.toList.drop 1).toArray⟩) := fun Q q =>
  ho _ ⟨1, rfl, a, rfl, rfl, rfl, h1, h2, q⟩
end
theorem gt_nt {te : TE} {σ : St} {H : Hp} {R : Hp → Prop} (h : Gv te σ H (fun v H' => v = .bl true ∧ R H')) : GvT (tNot (tB te)) σ H (fun b H' => b = false ∧ R H') := fun Q q => h _ fun v H' r => ⟨true, r.1, q _ _ ⟨rfl, r.2⟩⟩
/-! ### reading a number -/
/-! ### numbers too long to be read -/
end L2

set_option linter.all false
set_option maxRecDepth 100000
set_option maxHeartbeats 4000000
namespace L2
open PySem PySem.Spec PyProof.Rows
/-! ### a written dict of the top: words to objects of the top -/
def entOf (P : Params) (p : Str × Tok × Addr) : DictEntry := ⟨PyData.keyHash P p.1, .str p.1 p.2.1, .ref p.2.2⟩
def KTab (w : World) (K : PySem.W.Frag) (d : Addr) (l : List (Str × Tok × Addr)) : Prop := (d == sysModules) = false ∧ ∃ ep, K.lookup d = some ⟨.type "dict", none, .dict (l.map (entOf w.params)).toArray ep, #[]⟩
def tabV (l : List (Str × Tok × Addr)) (x : Str) : V := match l.find? (fun p => p.1 == x) with
  | some p => .ref p.2.2
  | none => .non
theorem find_tab {P : Params} {x : Str} : ∀ (l : List (Str × Tok × Addr)), (((l.map (entOf P)).find? fun e => Value.isStrOf x e.key).map DictEntry.val).getD .none = (match l.find? (fun p => p.1 == x) with | some p => Value.ref p.2.2 | none => .none)
  | [] => rfl
  | p :: l => by
    rw [List.map_cons, List.find?_cons, List.find?_cons]
    have e : Value.isStrOf x (entOf P p).key = (p.1 == x) := rfl
    rw [e]
    cases p.1 == x with
    | true => rfl
    | false => exact find_tab l
section
variable {X : Cx}
theorem pe_kget {x : Str} {d : Addr} {l : List (Str × Tok × Addr)} {e : Expr} {t : TA} {p1 apos cpos : Pos} (hT : KTab X.w X.K d l) (hm : X.mg x = some (.ref d)) (ha : PA X [e] t) (hg : Gl X x := by rfl) (hd : (x == ("__debug__" : Str)) = false := by decide)
    (hbase : attributeBase (.Name x p1) "get" X.env (eval (.Name x p1) X.env) = eval (.Name x p1) X.env := by rfl)
    (hfew : ((backTo cpos (starEach [e] X.env)).all (fun x => !x.1) && (backToKw cpos (keywordEach [] X.env)).all (fun x => x.1.isSome)
      && decide (([e] : List Expr).length + ([] : List Keyword).length + (if ([] : List Keyword).isEmpty then 0 else 1) < 30)) = true := by rfl)
    (hline : (apos.endLine == cpos.line) = true := by rfl) (hs : starEach [e] X.env = (false, eval e X.env) :: starEach [] X.env := by rfl) (hplain : (backTo cpos (starEach [] X.env)).any (·.1) = false := by rfl) :
    PE X (.Call (.Attribute (.Name x p1) "get" apos) [e] [] cpos) (fun σ H Q => t σ H fun xs H1 => ∃ z, xs = [.str z] ∧ Q (tabV l z) H1) := by
  intro pins s σ H Q I h
  obtain ⟨hsys, ep, hk⟩ := hT
  refine wpAny_Call_method_late hbase hfew hline rfl (ld_glob I hg hm ?_ hd)
  have hget := I.kIn _ _ hk
  refine ⟨"dict", "dict.get", PySem.F.plainAttrs_dict, PySem.F.slot_dict_get, PySem.F.type_dict_get, ⟨_, hget, rfl⟩, fun a e => ?_, ?_⟩
  · cases e
    exact ⟨_, hget, rfl⟩
  have hA := ha cpos pins s σ H _ I h
  rw [hs] at hA ⊢
  refine Calls.callWith_builtin (by show (false || (backTo cpos (starEach [] X.env)).any (·.1)) = false; rw [hplain] <;> rfl) (Calls.evalArgs_plain ?_)
  refine thn hA fun us s2 ⟨vs, H2, I2, r2, q2⟩ => ?_
  obtain ⟨z, rfl, q⟩ := q2
  obtain ⟨u, rfl, ru⟩ := vals1 r2
  obtain ⟨tk, rfl⟩ := ru
  have hget2 := I2.kIn _ _ hk
  refine call_meetsIn PySem.F.slot_dict_get (show s2.TypeIs (.ref d) "dict" from ⟨_, hget2, rfl⟩) PySem.F.entry_dict_get (PySem.F.args_dict_get_2 _ _) (meets_dict_get (strKind X.prog X.w) d (k := z) (by show (z == z) = true; exact beq_self_eq_true z) hsys) ⟨_, ⟨_, _, _, hget2, ⟨rfl, rfl, rfl⟩, rfl, fun e he => ?_, fun k => rfl⟩, tabV l z, H2, I2.tok _, ?_, q⟩
  · rw [List.mem_toArray] at he
    obtain ⟨p, _, rfl⟩ := List.mem_map.mp he
    exact ⟨p.1, beq_self_eq_true p.1, rfl⟩
  · have e : findBy (strKind X.prog X.w).is (l.map (entOf X.w.params)).toArray z = ((l.map (entOf X.w.params)).find? fun e => Value.isStrOf z e.key).map DictEntry.val := by
      unfold findBy
      rw [List.find?_toArray]
      rfl
    rw [e, find_tab]
    unfold tabV
    cases l.find? (fun p => p.1 == z) with
    | none => rfl
    | some p => rfl
end
/-! ### zip of two tuples, of the call or of the top -/
def Izt (K : PySem.W.Frag) (a b : Addr) : It :=
  ⟨fun i H => ∃ xs ys x y, SqT K H a xs ∧ SqT K H b ys ∧ xs[i]? = some x ∧ ys[i]? = some y,
   fun i H v H' => ∃ p x y, H p = none ∧ v = .ref p ∧ H' = upd H p (.tup [x, y]) ∧ (∀ xs, SqT K H a xs → xs[i]? = some x) ∧ ∀ ys, SqT K H b ys → ys[i]? = some y,
   fun i H => ∃ xs ys, SqT K H a xs ∧ SqT K H b ys ∧ (xs.length ≤ i ∨ ys.length ≤ i)⟩
theorem turn_zipTT {P : Program} {w : World} {K : PySem.W.Frag} {es : List Expr} {n1} {pos : Pos}
    {z TI TO i1 i2 a b : Addr} (D : ZipApart z TI TO i1 i2 a b) : Turn P w K (.Tuple es n1 pos) (Izt K a b) [z, TI, TO, i1, i2] z (fun i h => IsZip h z TI TO .none ∧ IsPair h TI (.ref i1) (.ref i2) ∧ (∃ x y, IsPair h TO x y) ∧ h.IsTupleIter i1 a i ∧ h.IsTupleIter i2 b i) where
  mem := by simp
  obj := fun i h st e he => by
    obtain ⟨hz, hI, ⟨x, y, hO⟩, t1, t2⟩ := st
    simp only [List.mem_cons, List.not_mem_nil, or_false] at he
    rcases he with rfl | rfl | rfl | rfl | rfl
    · exact ⟨_, hz, fun v z => nomatch z⟩
    · exact ⟨_, hI, fun v z => nomatch z⟩
    · exact ⟨_, hO, fun v z => nomatch z⟩
    · exact (src_tup (prog := P) (w := w) _ a).obj i h t1
    · exact (src_tup (prog := P) (w := w) _ b).obj i h t2
  keep := fun i h h' st k => by
    obtain ⟨hz, hI, ⟨x, y, hO⟩, t1, t2⟩ := st
    exact ⟨k z (by simp) _ hz, k TI (by simp) _ hI, ⟨x, y, k TO (by simp) _ hO⟩, (src_tup (prog := P) (w := w) i1 a).tk _ _ _ t1 fun o e => k i1 (by simp) o e, (src_tup (prog := P) (w := w) i2 b).tk _ _ _ t2 fun o e => k i2 (by simp) o e⟩
  item := by
    intro X hP hw hK hc i pins s σ H E I hf st hg
    subst hP hw hK
    obtain ⟨xs, ys, x, y, ha, hb, ex, ey⟩ := hg
    obtain ⟨hz, hI, ⟨p, q, hO⟩, t1, t2⟩ := st
    obtain ⟨us, ru, c1, _⟩ := I.tuple ha
    obtain ⟨vs, rv, c2, _⟩ := I.tuple hb
    obtain ⟨u, hu, rxu⟩ := ru.get ex
    obtain ⟨v, hv, ryv⟩ := rv.get ey
    refine zz_nextItem D (src_tup i1 a) (src_tup i2 b) hz hI hO t1 t2 c1 c2 (x := u) (y := v) (by simpa using hu) (by simpa using hv) fun h1 a1 a2 a3 a4 a5 a6 => ⟨_, rfl, ?_⟩
    refine wpAny_letOwnedTupleGo_zip (s := { s with heap := h1 }) a1 fun h2 hz2 sb => ?_
    have zl := Heap.lt_size hz
    have fr : H s.heap.objs.size = none := I.hok.fresh (Nat.le_refl _)
    have ne : ∀ {e : Addr} {o : Obj}, s.heap.get? e = some o → e ≠ s.heap.objs.size := fun h => Nat.ne_of_lt (Heap.lt_size h)
    have up : ∀ e o, e ≠ z → h1.get? e = some o → h2.get? e = some o := fun e o n g => sb.extBut _ _ n g
    refine ⟨.ref s.heap.objs.size, upd H s.heap.objs.size (.tup [x, y]), ?_, rfl, ⟨_, x, y, fr, rfl, rfl, fun xs' h => ?_, fun ys' h => ?_⟩, ⟨hz2, up _ _ D.TIz (a6 _ _ D.TIz D.TITO D.TIi1 D.TIi2 hI), ⟨_, _, up _ _ D.TOz a2⟩, (src_tup (prog := X.prog) (w := X.w) i1 a).tk _ _ _ a3 fun o e => up _ o D.i1z e, (src_tup (prog := X.prog) (w := X.w) i2 b).tk _ _ _ a4 fun o e => up _ o D.i2z e⟩, fun e he => ?_⟩
    · refine I.turnedT (ch := [z, TI, TO, i1, i2]) (fun e o n g => ?_) hf (up _ _ (Nat.ne_of_gt zl) a5) rxu ryv
      simp only [List.mem_cons, List.not_mem_nil, or_false, not_or] at n
      exact up e o n.1 (a6 e o n.1 n.2.2.1 n.2.2.2.1 n.2.2.2.2 g)
    · rw [← I.tuple_inj ha h]; exact ex
    · rw [← I.tuple_inj hb h]; exact ey
    · have : e ≠ s.heap.objs.size := by
        simp only [List.mem_cons, List.not_mem_nil, or_false] at he
        rcases he with rfl | rfl | rfl | rfl | rfl
        · exact ne hz
        · exact ne hI
        · exact ne hO
        · obtain ⟨o, h, _⟩ := (src_tup (prog := X.prog) (w := X.w) _ a).obj _ _ t1; exact ne h
        · obtain ⟨o, h, _⟩ := (src_tup (prog := X.prog) (w := X.w) _ b).obj _ _ t2; exact ne h
      rw [upd_ne this]; exact (hf e he).1
  done := by
    intro X hP hw hK hc i pins s σ H E I hf st hg
    subst hP hw hK
    obtain ⟨xs, ys, ha, hb, hl⟩ := hg
    obtain ⟨hz, hI, ⟨p, q, hO⟩, t1, t2⟩ := st
    obtain ⟨us, ru, c1, _⟩ := I.tuple ha
    obtain ⟨vs, rv, c2, _⟩ := I.tuple hb
    have l1 := ru.length
    have l2 := rv.length
    refine zz_nextEnd (I.ok.hd hc) D (src_tup i1 a) (src_tup i2 b) hz hI hO t1 t2 c1 c2 ?_ fun h1 a6 => ⟨rfl, I.turnedL (ch := [z, TI, TO, i1, i2]) (fun e o n g => ?_) hf⟩
    · rcases hl with h | h
      · left; simp; omega
      · right; simp; omega
    · simp only [List.mem_cons, List.not_mem_nil, or_false, not_or] at n
      exact a6 e o n.1 n.2.2.1 n.2.2.2.1 n.2.2.2.2 g
  self := fun _ _ _ _ _ st h => wpAny_pyIter_zip st.1 h
section
variable {prog : Program} {w : World} {A : Around} {E : Value → Shared → Prop} {s : Shared}
def yA (h : Heap) (t : Addr) : Heap := h.push { cls := .type "tuple_iterator", data := .fields #[.ref t, .int 0 0] }
def yB (h : Heap) (t l : Addr) : Heap := (yA h t).push { cls := .type "tuple_iterator", data := .fields #[.ref l, .int 0 0] }
def yC (h : Heap) (t l : Addr) : Heap := (yB h t l).push { cls := .type "tuple", data := .seq #[.ref h.objs.size, .ref (yA h t).objs.size] }
def yD (h : Heap) (t l : Addr) : Heap := (yC h t l).push { cls := .type "tuple", data := .seq #[.none, .none] }
def yE (h : Heap) (t l : Addr) : Heap := (yD h t l).push { cls := .type "zip", data := .fields #[.none, .bool false, .bool false, .ref (yB h t l).objs.size, .ref (yC h t l).objs.size] }
theorem zn_tt (t l : Addr) (xs ys : Array Value) : Meets (Builtin.«zip.__new__» ⟨[.type "zip", .ref t, .ref l], []⟩) (fun _ R s => s.heap.IsTuple t xs ∧ s.heap.IsTuple l ys ∧ R (.ok (.ret (.ref (yD s.heap t l).objs.size))) { s with heap := yE s.heap t l }) :=
  .of_wp fun prog w A R s h => by
    obtain ⟨hp, g, d, tk, os⟩ := s
    obtain ⟨c1, c2, h⟩ := h
    have hsub := sub_zip
    have e1 : Heap.IsTuple (Shared.heap ⟨hp, g, d, tk, os⟩) t xs := c1
    have e2 : Heap.IsTuple (Shared.heap ⟨hp.push { cls := .type "tuple_iterator", data := .fields #[.ref t, .int 0 0] }, g, d, tk, os⟩) l ys := Heap.IsTuple.push c2 _
    wp_walk using wpAny_pyIter_tuple e1, wpAny_pyIter_tuple e2
    exact ⟨_, rfl, h⟩
theorem call_zipTT {t l : Addr} {xs ys : Array Value} {Q : Value → Shared → Prop} (c1 : s.heap.IsTuple t xs) (c2 : s.heap.IsTuple l ys)
    (q : ∀ h', IsZip h' (s.heap.objs.size + 4) (s.heap.objs.size + 2) (s.heap.objs.size + 3) .none → IsPair h' (s.heap.objs.size + 2) (.ref s.heap.objs.size) (.ref (s.heap.objs.size + 1)) →
      IsPair h' (s.heap.objs.size + 3) .none .none → h'.IsTupleIter s.heap.objs.size t 0 → h'.IsTupleIter (s.heap.objs.size + 1) l 0 → (∀ c o, s.heap.get? c = some o → h'.get? c = some o) → Q (.ref (s.heap.objs.size + 4)) { s with heap := h' }) :
    wpAny (model prog w) A (call (.type "zip") [.ref t, .ref l]) Q E s := by
  refine callType_new F.called_zip (by decide) (F.typeCall_zip_2 _ _) (F.newCall_zip_2 _ _) (fun obj => F.args_object_init_3 obj _ _) F.entry_zip_new (zn_tt t l xs ys) ⟨c1, c2, ?_⟩
  have n1 : (yA s.heap t).objs.size = s.heap.objs.size + 1 := Heap.size_push ..
  have n2 : (yB s.heap t l).objs.size = s.heap.objs.size + 2 := by unfold yB; rw [Heap.size_push, n1]
  have n3 : (yC s.heap t l).objs.size = s.heap.objs.size + 3 := by unfold yC; rw [Heap.size_push, n2]
  have n4 : (yD s.heap t l).objs.size = s.heap.objs.size + 4 := by unfold yD; rw [Heap.size_push, n3]
  have p1 : ∀ c o, (yA s.heap t).get? c = some o → (yE s.heap t l).get? c = some o := fun c o e => Heap.get?_push_of_some _ (Heap.get?_push_of_some _ (Heap.get?_push_of_some _ (Heap.get?_push_of_some _ e)))
  have p2 : ∀ c o, (yB s.heap t l).get? c = some o → (yE s.heap t l).get? c = some o := fun c o e => Heap.get?_push_of_some _ (Heap.get?_push_of_some _ (Heap.get?_push_of_some _ e))
  have p3 : ∀ c o, (yC s.heap t l).get? c = some o → (yE s.heap t l).get? c = some o := fun c o e => Heap.get?_push_of_some _ (Heap.get?_push_of_some _ e)
  have g1 : (yE s.heap t l).get? s.heap.objs.size = some _ := p1 _ _ (Heap.get?_push_size _ rfl)
  have g2 : (yE s.heap t l).get? (yA s.heap t).objs.size = some _ := p2 _ _ (Heap.get?_push_size _ rfl)
  have g3 : (yE s.heap t l).get? (yB s.heap t l).objs.size = some _ := p3 _ _ (Heap.get?_push_size _ rfl)
  have g4 : (yE s.heap t l).get? (yC s.heap t l).objs.size = some _ := Heap.get?_push_of_some _ (Heap.get?_push_size _ rfl)
  have g5 : (yE s.heap t l).get? (yD s.heap t l).objs.size = some _ := Heap.get?_push_size _ rfl
  show _ ∧ _
  rw [n2, n3, n4] at g5
  rw [n1, n2] at g3
  rw [n3] at g4
  rw [n1] at g2
  rw [n4]
  exact ⟨⟨_, g5, rfl⟩, q _ g5 g3 g4 ⟨_, g1, rfl, rfl⟩ ⟨_, g2, rfl, rfl⟩ fun c o e => p1 c o (Heap.get?_push_of_some _ e)⟩
end
section
variable {X : Cx}
def iZipT (K : PySem.W.Frag) (t : TA) : TI := fun σ H R => t σ H fun vs H1 => ∃ a b xs ys, vs = [.ref a, .ref b] ∧ SqT K H1 a xs ∧ SqT K H1 b ys ∧ R (Izt K a b) H1
theorem pi_zipTT {es : List Expr} {n1} {tp : Pos} {e1 e2 : Expr} {ta : TA} {p pos : Pos} (hg : Gl X "zip") (hm : X.mg "zip" = none) (hb : bootBuiltins "zip" = some (.type "zip")) (ha : PA X [e1, e2] ta)
    (hs : starEach [e1, e2] X.env = [(false, eval e1 X.env), (false, eval e2 X.env)] := by rfl) (hs2 : starEach [e2] X.env = [(false, eval e2 X.env)] := by rfl) :
    PI X (.Tuple es n1 tp) (.Call (.Name "zip" p) [e1, e2] [] pos) (iZipT X.K ta) := by
  intro pins s σ H R I h
  refine Call_ (ld_blt I hg hm hb (PyProof.Rows.callWith_type1 (thn (ha pos pins s σ H _ I h) fun us s1 ⟨vs, H1, I1, r1, q1⟩ => ?_) (by rw [hs, hs2]) (by rw [hs2]; rfl)))
  obtain ⟨a, b, xs, ys, rfl, h1, h2, q⟩ := q1
  cases r1 with
  | cons r rr =>
    cases rr with
    | cons r' rr =>
      cases rr
      cases r
      cases r'
      obtain ⟨us1, _, c1, _⟩ := I1.tuple h1
      obtain ⟨us2, _, c2, _⟩ := I1.tuple h2
      have la : a < s1.heap.objs.size := by
        obtain ⟨o, e, _⟩ := id c1
        exact Heap.lt_size e
      have lb : b < s1.heap.objs.size := by
        obtain ⟨o, e, _⟩ := id c2
        exact Heap.lt_size e
      refine call_zipTT c1 c2 fun h' z1 z2 z3 z4 z5 k => ?_
      refine wpAny_pyIter_zip (s := { s1 with heap := h' }) z1 ?_
      refine ⟨s1.heap.objs.size + 4, [s1.heap.objs.size + 4, s1.heap.objs.size + 2, s1.heap.objs.size + 3, s1.heap.objs.size, s1.heap.objs.size + 1], _, _, H1, rfl, I1.kept (t' := s1.toks) k, turn_zipTT (zip_apart la lb), ⟨z1, z2, ⟨_, _, z3⟩, z4, z5⟩, fun e he => ?_, q⟩
      have ge : s1.heap.objs.size ≤ e := by
        simp only [List.mem_cons, List.not_mem_nil, or_false] at he
        rcases he with rfl | rfl | rfl | rfl | rfl <;> omega
      exact I1.fpOk ge (I1.hok.fresh ge)
end
end L2

set_option linter.all false
set_option maxRecDepth 100000
set_option maxHeartbeats 4000000
namespace L2
open PySem PySem.Spec PyProof.Rows
/-! ### a loop whose body may raise -/
end L2

set_option linter.all false
set_option maxRecDepth 100000
set_option maxHeartbeats 4000000
namespace L2
open PySem PySem.Spec PyProof.Rows
/-! ### things of any kind -/
inductive D where
  | non | bl (b : Bool) | int (n : Int) | str (s : Str) | tup (ds : List D) | lst (ds : List D) | dct
mutual
/-- v is that thing; lists are not hd -/
inductive DAt (hd : Addr) (H : Hp) : V → D → Prop
  | non : DAt hd H .non .non
  | bl (b : Bool) : DAt hd H (.bl b) (.bl b)
  | int (n : Int) : DAt hd H (.int n) (.int n)
  | str (s : Str) (h : (∀ c ∈ s.cps.toList, c < 128) ∧ s.length ≤ 1000) : DAt hd H (.str s) (.str s)
  | tup {a : Addr} {xs : List V} {ds : List D} (h : H a = some (.tup xs)) (t : DsAt hd H xs ds) : DAt hd H (.ref a) (.tup ds)
  | lst {a : Addr} {xs : List V} {ds : List D} (h : H a = some (.lst xs)) (n : a ≠ hd) (t : DsAt hd H xs ds) : DAt hd H (.ref a) (.lst ds)
  | dct {a : Addr} {kvs : List (Key × V)} (h : H a = some (.dK kvs)) : DAt hd H (.ref a) .dct
inductive DsAt (hd : Addr) (H : Hp) : List V → List D → Prop
  | nil : DsAt hd H [] []
  | cons {x : V} {d : D} {xs : List V} {ds : List D} (h : DAt hd H x d) (t : DsAt hd H xs ds) : DsAt hd H (x :: xs) (d :: ds)
end
section
variable {hd : Addr} {H H' : Hp}
mutual
theorem DAt.same (s : Same H H') : ∀ {v : V} {d : D}, DAt hd H v d → DAt hd H' v d
  | _, _, .non => .non
  | _, _, .bl b => .bl b
  | _, _, .int n => .int n
  | _, _, .str x h => .str x h
  | _, _, .tup h t => .tup (s _ _ h) (DsAt.same s t)
  | _, _, .lst h n t => .lst (s _ _ h) n (DsAt.same s t)
  | _, _, .dct h => .dct (s _ _ h)
theorem DsAt.same (s : Same H H') : ∀ {vs : List V} {ds : List D}, DsAt hd H vs ds → DsAt hd H' vs ds
  | _, _, .nil => .nil
  | _, _, .cons h t => .cons (DAt.same s h) (DsAt.same s t)
end
mutual
theorem DAt.but {ys : List V} (hy : H hd = some (.lst ys)) (s : SameB hd H H') : ∀ {v : V} {d : D}, DAt hd H v d → DAt hd H' v d
  | _, _, .non => .non
  | _, _, .bl b => .bl b
  | _, _, .int n => .int n
  | _, _, .str x h => .str x h
  | _, _, .tup h t => .tup (s _ _ h fun e => by rw [e, hy] at h; cases h) (DsAt.but hy s t)
  | _, _, .lst h n t => .lst (s _ _ h n) n (DsAt.but hy s t)
  | _, _, .dct h => .dct (s _ _ h fun e => by rw [e, hy] at h; cases h)
theorem DsAt.but {ys : List V} (hy : H hd = some (.lst ys)) (s : SameB hd H H') : ∀ {vs : List V} {ds : List D}, DsAt hd H vs ds → DsAt hd H' vs ds
  | _, _, .nil => .nil
  | _, _, .cons h t => .cons (DAt.but hy s h) (DsAt.but hy s t)
end
theorem DsAt.len : ∀ {vs : List V} {ds : List D}, DsAt hd H vs ds → vs.length = ds.length
  | _, _, .nil => rfl
  | _, _, .cons _ t => congrArg (· + 1) t.len
theorem DsAt.get : ∀ {vs : List V} {ds : List D} {i : Nat} {v : V}, DsAt hd H vs ds → vs[i]? = some v → ∃ d, ds[i]? = some d ∧ DAt hd H v d
  | _, _, 0, _, .cons h _, e => by cases e; exact ⟨_, rfl, h⟩
  | _, _, i + 1, _, .cons _ t, e => t.get (i := i) e
end
/-! ### kinds -/
theorem kit_not {K : PySem.W.Frag} {a b : String} (hn : (Value.type a == Value.type b) = false) (hm : (if PySem.W.kitMeta b = true then (PySem.fastBuiltinMro a).map (·.contains (Value.type b)) else none) = some false) : PySem.W.kitOne K (.type a) (.type b) = some false := by
  unfold PySem.W.kitOne
  rw [if_neg (by rw [hn]; decide)]
  exact hm
/-! ### text times number -/
section
variable {σ : St} {H : Hp} {te : TE} {fr : St → St} {K : PySem.W.Frag}
theorem KeepS.noneL {v w : Option V} {f : List (Option V)} : KeepS (none :: none :: f) (v :: w :: f) := ⟨rfl, fun i u h => by
  rcases i with _ | _ | i
  · simp at h
  · simp at h
  · simpa using h⟩
/-- over zip of two tuples, what each turn gives known -/
theorem gv_compZT {t : TA} {xs ys ws : List V} {f : List (Option V)} {RA : List V → Hp → Prop} (hf : fr σ = none :: none :: f) (ha : GvA t σ H RA)
    (hra : ∀ vs H1, RA vs H1 → ∃ a b, vs = [.ref a, .ref b] ∧ Same H H1 ∧ (∀ H2, Same H1 H2 → SqT K H2 a xs) ∧ ∀ H2, Same H1 H2 → SqT K H2 b ys) (hz : xs.length ≤ 1000) (h1 : ys.length = xs.length) (h2 : ws.length = xs.length)
    (hs : ∀ (i : Nat) x y w H', xs[i]? = some x → ys[i]? = some y → ws[i]? = some w → Same H H' → Gv te (some x :: some y :: f) H' (fun v H'' => v = w ∧ Same H' H'')) :
    Gv (tComp (iZipT K t) fr (gTup K 2 (gCons (gName 0) (gCons (gName 1) gNil))) te) σ H (fun v H' => Same H H' ∧ ∃ D, v = .ref D ∧ H D = none ∧ H' D = some (.lst ws)) := by
  intro Q g
  refine ha _ fun vs H1 r1 => ?_
  obtain ⟨a, b, rfl, s1, ha, hb⟩ := hra vs H1 r1
  refine ⟨a, b, xs, ys, rfl, ha _ Same.rfl', hb _ Same.rfl', fun D hD => ?_⟩
  have hD0 : H D = none := same_none s1 hD
  refine ⟨fun i m zs H2 => m = xs.length - i ∧ i ≤ xs.length ∧ zs = ws.take i ∧ Same H1 H2 ∧ H2 D = some (.lst zs), ⟨_, rfl, Nat.zero_le _, rfl, Same.upd hD, upd_same⟩, ?_⟩
  rintro i m zs H2 ⟨rfl, hi, rfl, s2, hD2⟩
  by_cases hlt : i < xs.length
  · have l2 : i < ys.length := by omega
    refine .inr ⟨⟨xs, ys, xs[i], ys[i], ha _ s2, hb _ s2, by simp [hlt], by simp [l2]⟩, ?_, ?_⟩
    · rw [List.length_take]; exact small1000 (by omega)
    rintro v H3 ⟨p, x, y, hp, rfl, rfl, hx, hy⟩
    have s3 : Same H2 (upd H2 p (.tup [x, y])) := Same.upd hp
    rw [hf]
    refine ⟨p, [x, y], rfl, SqT.of upd_same, rfl, x, [y], rfl, y, [], rfl, rfl, KeepS.noneL, ?_⟩
    have ew : ws[i]? = some ws[i] := List.getElem?_eq_getElem (by omega)
    refine hs i x y _ _ (hx xs (ha _ s2)) (hy ys (hb _ s2)) ew (s1.trans (s2.trans s3)) _ fun v H4 ⟨e4, s4⟩ => ?_
    refine ⟨s4 _ _ (s3 _ _ hD2), xs.length - (i + 1), by omega, rfl, hlt, ?_, same_updNew (s2.trans (s3.trans s4)) hD, upd_same⟩
    rw [List.take_succ, ew, e4]; simp
  · have e : i = xs.length := by omega
    subst e
    refine .inl ⟨⟨xs, ys, ha _ s2, hb _ s2, .inl (Nat.le_refl _)⟩, g _ _ ⟨s1.trans s2, D, rfl, hD0, ?_⟩⟩
    rw [hD2, ← h2, List.take_length]
/-- thing[1:] -/
theorem cutV1 (x : V) (xs : List V) : cutV (x :: xs) (some 1) none = xs := by
  have := cutV_drop (x :: xs) (k := 1) (by simp)
  simpa using this
theorem gv_tl {to : TE} {a : Addr} {x : V} {xs : List V} (ho : Pu to σ H (.ref a)) (ha : H a = some (.tup (x :: xs))) : Gv (tSl (rSlT K) to (tPart (tC (.int 1))) tNoPart) σ H (fun v H' => ∃ p, H p = none ∧ v = .ref p ∧ H' = upd H p (.tup xs)) := fun Q q =>
  ho _ ⟨1, rfl, a, x :: xs, rfl, SqT.of ha, fun z => by
    have : HT.sIx (x :: xs).length 0 (some 1) = 1 := by
      show HT.sIx (xs.length + 1) 0 (some 1) = 1
      simp [HT.sIx]
    rw [this] at z
    exact absurd z.1 (by decide), fun p hp => by rw [cutV1]; exact q _ _ ⟨p, hp, rfl, rfl⟩⟩
end
end L2

set_option linter.all false
set_option maxRecDepth 100000
set_option maxHeartbeats 4000000
namespace L2
open PySem PySem.StrLaws PySem.Builtin PySem.Builtin.Str PyProof.Rows
/-! ### shapes -/
inductive Kd where
  | name | number | wish
  deriving DecidableEq
def kdS : Kd → Str
  | .name => Str.ofString "name"
  | .number => Str.ofString "number"
  | .wish => Str.ofString "wish"
def shTab : List (Str × List Kd) := [(Str.ofString "in", [.name]), (Str.ofString "round", [.name, .number]), (Str.ofString "least", [.number]), (Str.ofString "no", [.wish]), (Str.ofString "both", [.wish, .wish]), (Str.ofString "any", [.wish, .wish])]
def shp (s : Str) : Option (List Kd) := (shTab.find? fun p => p.1 == s).map (·.2)
def ShOk (w : World) (K : PySem.W.Frag) (d : Addr) : Prop := ∃ l, KTab w K d l ∧ Paired (fun (p : Str × Tok × Addr) (q : Str × List Kd) => p.1 = q.1 ∧ ∀ H, SqT K H p.2.2 (q.2.map fun k => V.str (kdS k))) l shTab
theorem tab_find {K : PySem.W.Frag} {s : Str} : ∀ {l : List (Str × Tok × Addr)} {m : List (Str × List Kd)}, Paired (fun (p : Str × Tok × Addr) (q : Str × List Kd) => p.1 = q.1 ∧ ∀ H, SqT K H p.2.2 (q.2.map fun k => V.str (kdS k))) l m →
    ((m.find? fun p => p.1 == s).map (·.2) = none ∧ tabV l s = .non) ∨ ∃ ks a, (m.find? fun p => p.1 == s).map (·.2) = some ks ∧ tabV l s = .ref a ∧ ∀ H, SqT K H a (ks.map fun k => V.str (kdS k))
  | _, _, .nil => .inl ⟨rfl, rfl⟩
  | p :: l, q :: m, .cons h t => by
    unfold tabV
    rw [List.find?_cons, List.find?_cons, h.1]
    cases q.1 == s with
    | true => exact .inr ⟨q.2, p.2.2, rfl, rfl, h.2⟩
    | false => exact tab_find t
/-! ### which things are wishes -/
def letters : Str := Str.ofString "abcdefghijklmnopqrstuvwxyz"
def nameOk (s : Str) : Bool := decide (1 ≤ s.length) && (decide (s.length ≤ 8) && s.cps.toList.all fun c => decide (c ∈ letters.cps.toList))
def partOk (W : D → Bool) : Kd → D → Bool
  | .name, .str s => nameOk s
  | .name, _ => false
  | .number, .int _ => true
  | .number, _ => false
  | .wish, d => W d
def partsOk (W : D → Bool) : List Kd → List D → Bool
  | [], [] => true
  | k :: ks, d :: ds => partOk W k d && partsOk W ks ds
  | _, _ => false
def isW : Nat → D → Bool
  | 0, _ => false
  | k + 1, .tup (.str s :: ds) => match shp s with
    | none => false
    | some ks => partsOk (isW k) ks ds
  | _ + 1, _ => false
/-! ### wishes -/
inductive Wi where
  | inn (n : Str) | rnd (n : Str) (k : Int) | lst (k : Int) | no (w : Wi) | both (a b : Wi) | any (a b : Wi)
namespace Wi
def d : Wi → D
  | inn n => .tup [.str (Str.ofString "in"), .str n]
  | rnd n k => .tup [.str (Str.ofString "round"), .str n, .int k]
  | lst k => .tup [.str (Str.ofString "least"), .int k]
  | no w => .tup [.str (Str.ofString "no"), w.d]
  | both a b => .tup [.str (Str.ofString "both"), a.d, b.d]
  | any a b => .tup [.str (Str.ofString "any"), a.d, b.d]
def deep : Wi → Nat
  | inn _ => 1
  | rnd _ _ => 1
  | lst _ => 1
  | no w => w.deep + 1
  | both a b => max a.deep b.deep + 1
  | any a b => max a.deep b.deep + 1
def names : Wi → Prop
  | inn n => nameOk n = true
  | rnd n _ => nameOk n = true
  | lst _ => True
  | no w => w.names
  | both a b => a.names ∧ b.names
  | any a b => a.names ∧ b.names
theorem deep_pos (w : Wi) : 1 ≤ w.deep := by cases w <;> simp [deep]
theorem shp_in : shp (Str.ofString "in") = some [.name] := by decide +kernel
theorem shp_round : shp (Str.ofString "round") = some [.name, .number] := by decide +kernel
theorem shp_least : shp (Str.ofString "least") = some [.number] := by decide +kernel
theorem shp_no : shp (Str.ofString "no") = some [.wish] := by decide +kernel
theorem shp_both : shp (Str.ofString "both") = some [.wish, .wish] := by decide +kernel
theorem shp_any : shp (Str.ofString "any") = some [.wish, .wish] := by decide +kernel
theorem isW_d : ∀ (w : Wi) (k : Nat), w.names → isW k w.d = decide (w.deep ≤ k)
  | w, 0, _ => by
    have := w.deep_pos
    rw [decide_eq_false (by omega)]
    rfl
  | inn n, k + 1, h => by
    have h' : nameOk n = true := h
    simp [d, isW, shp_in, partsOk, partOk, h', deep]
  | rnd n z, k + 1, h => by
    have h' : nameOk n = true := h
    simp [d, isW, shp_round, partsOk, partOk, h', deep]
  | lst z, k + 1, h => by simp [d, isW, shp_least, partsOk, partOk, deep]
  | no w, k + 1, h => by
    have := isW_d w k h
    simp [d, isW, shp_no, partsOk, partOk, deep, this]
  | both a b, k + 1, h => by
    have h1 := isW_d a k h.1
    have h2 := isW_d b k h.2
    rw [Bool.eq_iff_iff]
    simp [d, isW, shp_both, partsOk, partOk, deep, h1, h2]
    omega
  | any a b, k + 1, h => by
    have h1 := isW_d a k h.1
    have h2 := isW_d b k h.2
    rw [Bool.eq_iff_iff]
    simp [d, isW, shp_any, partsOk, partOk, deep, h1, h2]
    omega
end Wi
/-! ### texts -/
/-! ### the written dict of the shapes -/
theorem sq_w {K : PySem.W.Frag} {a : Addr} {o : Option Addr} {its : Array Value} {n} {sl : Array (Option Value)} {xs : List V} (h : K.lookup a = some ⟨.type "tuple", o, .seq its n, sl⟩) (hz : its.size ≤ 10) (hv : Vals xs its.toList) : ∀ H, SqT K H a xs := fun H => .inr ⟨_, its, n, h, rfl, rfl, Nat.le_trans hz (by decide), hv⟩
theorem sh_mk {w : World} {K : PySem.W.Frag} {d : Addr} {ep} {t0 : Tok} {a0 : Addr} {t1 : Tok} {a1 : Addr} {t2 : Tok} {a2 : Addr} {t3 : Tok} {a3 : Addr} {t4 : Tok} {a4 : Addr} {t5 : Tok} {a5 : Addr} {o0 : Option Addr} {n0} {s0 : Array (Option Value)} {u0_0 : Tok} {o1 : Option Addr} {n1} {s1 : Array (Option Value)} {u1_0 : Tok} {u1_1 : Tok} {o2 : Option Addr} {n2} {s2 : Array (Option Value)} {u2_0 : Tok} {o3 : Option Addr} {n3} {s3 : Array (Option Value)} {u3_0 : Tok} {o4 : Option Addr} {n4} {s4 : Array (Option Value)} {u4_0 : Tok} {u4_1 : Tok} {o5 : Option Addr} {n5} {s5 : Array (Option Value)} {u5_0 : Tok} {u5_1 : Tok} (hd : (d == sysModules) = false) (y : K.lookup d = some ⟨.type "dict", none, .dict #[⟨PyData.keyHash w.params (Str.ofString "in"), .str (Str.ofString "in") t0, .ref a0⟩, ⟨PyData.keyHash w.params (Str.ofString "round"), .str (Str.ofString "round") t1, .ref a1⟩, ⟨PyData.keyHash w.params (Str.ofString "least"), .str (Str.ofString "least") t2, .ref a2⟩, ⟨PyData.keyHash w.params (Str.ofString "no"), .str (Str.ofString "no") t3, .ref a3⟩, ⟨PyData.keyHash w.params (Str.ofString "both"), .str (Str.ofString "both") t4, .ref a4⟩, ⟨PyData.keyHash w.params (Str.ofString "any"), .str (Str.ofString "any") t5, .ref a5⟩] ep, #[]⟩) (y0 : K.lookup a0 = some ⟨.type "tuple", o0, .seq #[.str (Str.ofString "name") u0_0] n0, s0⟩) (y1 : K.lookup a1 = some ⟨.type "tuple", o1, .seq #[.str (Str.ofString "name") u1_0, .str (Str.ofString "number") u1_1] n1, s1⟩) (y2 : K.lookup a2 = some ⟨.type "tuple", o2, .seq #[.str (Str.ofString "number") u2_0] n2, s2⟩) (y3 : K.lookup a3 = some ⟨.type "tuple", o3, .seq #[.str (Str.ofString "wish") u3_0] n3, s3⟩) (y4 : K.lookup a4 = some ⟨.type "tuple", o4, .seq #[.str (Str.ofString "wish") u4_0, .str (Str.ofString "wish") u4_1] n4, s4⟩) (y5 : K.lookup a5 = some ⟨.type "tuple", o5, .seq #[.str (Str.ofString "wish") u5_0, .str (Str.ofString "wish") u5_1] n5, s5⟩) : ShOk w K d := by
  refine ⟨[(Str.ofString "in", t0, a0), (Str.ofString "round", t1, a1), (Str.ofString "least", t2, a2), (Str.ofString "no", t3, a3), (Str.ofString "both", t4, a4), (Str.ofString "any", t5, a5)], ⟨hd, ep, y⟩, .cons ⟨rfl, sq_w y0 (by simp) (.cons ⟨_, rfl⟩ (.nil))⟩ (.cons ⟨rfl, sq_w y1 (by simp) (.cons ⟨_, rfl⟩ (.cons ⟨_, rfl⟩ (.nil)))⟩ (.cons ⟨rfl, sq_w y2 (by simp) (.cons ⟨_, rfl⟩ (.nil))⟩ (.cons ⟨rfl, sq_w y3 (by simp) (.cons ⟨_, rfl⟩ (.nil))⟩ (.cons ⟨rfl, sq_w y4 (by simp) (.cons ⟨_, rfl⟩ (.cons ⟨_, rfl⟩ (.nil)))⟩ (.cons ⟨rfl, sq_w y5 (by simp) (.cons ⟨_, rfl⟩ (.cons ⟨_, rfl⟩ (.nil)))⟩ (.nil))))))⟩
end L2

set_option linter.all false
set_option maxRecDepth 100000
set_option maxHeartbeats 4000000
namespace L2
open PySem PySem.Spec PyProof.Rows
def D.ty : D → String
  | .non => "NoneType"
  | .bl _ => "bool"
  | .int _ => "int"
  | .str _ => "str"
  | .tup _ => "tuple"
  | .lst _ => "list"
  | .dct => "dict"
theorem DAt.ty {K : PySem.W.Frag} {hd : Addr} {H : Hp} {v : V} {d : D} (h : DAt hd H v d) : TyOf K H v (.type d.ty) := by
  cases h with
  | non => exact .non
  | bl b => exact .bl b
  | int n => exact .int n
  | str s _ => exact .str s
  | tup h _ => exact .tup h
  | lst h _ _ => exact .lst h
  | dct h => exact .dK h
def D.isStr : D → Bool
  | .str _ => true
  | _ => false
def D.isTup : D → Bool
  | .tup _ => true
  | _ => false
def D.isInt : D → Bool
  | .int _ => true
  | .bl _ => true
  | _ => false
def D.isBool : D → Bool
  | .bl _ => true
  | _ => false
theorem kit_bool_int {K : PySem.W.Frag} : PySem.W.kitOne K (.type "bool") (.type "int") = some true := by
  unfold PySem.W.kitOne
  rw [if_neg (by decide)]
  show (if PySem.W.kitMeta "int" = true then (PySem.fastBuiltinMro "bool").map (·.contains (Value.type "int")) else none) = some true
  decide +kernel
theorem kd_str {K : PySem.W.Frag} (d : D) : PySem.W.kitOne K (.type d.ty) (.type "str") = some d.isStr := by
  cases d with
  | str s => exact kit_same
  | non => exact kit_not (a := "NoneType") (b := "str") (by decide) (by decide +kernel)
  | bl _ => exact kit_not (a := "bool") (b := "str") (by decide) (by decide +kernel)
  | int _ => exact kit_not (a := "int") (b := "str") (by decide) (by decide +kernel)
  | tup _ => exact kit_not (a := "tuple") (b := "str") (by decide) (by decide +kernel)
  | lst _ => exact kit_not (a := "list") (b := "str") (by decide) (by decide +kernel)
  | dct => exact kit_not (a := "dict") (b := "str") (by decide) (by decide +kernel)
theorem kd_tup {K : PySem.W.Frag} (d : D) : PySem.W.kitOne K (.type d.ty) (.type "tuple") = some d.isTup := by
  cases d with
  | tup s => exact kit_same
  | non => exact kit_not (a := "NoneType") (b := "tuple") (by decide) (by decide +kernel)
  | bl _ => exact kit_not (a := "bool") (b := "tuple") (by decide) (by decide +kernel)
  | int _ => exact kit_not (a := "int") (b := "tuple") (by decide) (by decide +kernel)
  | str _ => exact kit_not (a := "str") (b := "tuple") (by decide) (by decide +kernel)
  | lst _ => exact kit_not (a := "list") (b := "tuple") (by decide) (by decide +kernel)
  | dct => exact kit_not (a := "dict") (b := "tuple") (by decide) (by decide +kernel)
theorem kd_int {K : PySem.W.Frag} (d : D) : PySem.W.kitOne K (.type d.ty) (.type "int") = some d.isInt := by
  cases d with
  | int s => exact kit_same
  | bl b => exact kit_bool_int
  | non => exact kit_not (a := "NoneType") (b := "int") (by decide) (by decide +kernel)
  | str _ => exact kit_not (a := "str") (b := "int") (by decide) (by decide +kernel)
  | tup _ => exact kit_not (a := "tuple") (b := "int") (by decide) (by decide +kernel)
  | lst _ => exact kit_not (a := "list") (b := "int") (by decide) (by decide +kernel)
  | dct => exact kit_not (a := "dict") (b := "int") (by decide) (by decide +kernel)
theorem kd_bool {K : PySem.W.Frag} (d : D) : PySem.W.kitOne K (.type d.ty) (.type "bool") = some d.isBool := by
  cases d with
  | bl s => exact kit_same
  | non => exact kit_not (a := "NoneType") (b := "bool") (by decide) (by decide +kernel)
  | int _ => exact kit_not (a := "int") (b := "bool") (by decide) (by decide +kernel)
  | str _ => exact kit_not (a := "str") (b := "bool") (by decide) (by decide +kernel)
  | tup _ => exact kit_not (a := "tuple") (b := "bool") (by decide) (by decide +kernel)
  | lst _ => exact kit_not (a := "list") (b := "bool") (by decide) (by decide +kernel)
  | dct => exact kit_not (a := "dict") (b := "bool") (by decide) (by decide +kernel)
end L2

set_option linter.all false
set_option maxRecDepth 100000
set_option maxHeartbeats 4000000
namespace L2
open PySem PySem.StrLaws PySem.Builtin PySem.Builtin.Str PyProof.Rows
/-! ### wishes by their parts -/
inductive Pa where
  | nm (s : Str) | nb (k : Int) | ws (w : Wi)
namespace Pa
def kd : Pa → Kd
  | nm _ => .name
  | nb _ => .number
  | ws _ => .wish
def d : Pa → D
  | nm s => .str s
  | nb k => .int k
  | ws w => w.d
def deep : Pa → Nat
  | ws w => w.deep
  | _ => 0
end Pa
namespace Wi
def word : Wi → Str
  | inn _ => Str.ofString "in"
  | rnd _ _ => Str.ofString "round"
  | lst _ => Str.ofString "least"
  | no _ => Str.ofString "no"
  | both _ _ => Str.ofString "both"
  | any _ _ => Str.ofString "any"
def parts : Wi → List Pa
  | inn n => [.nm n]
  | rnd n k => [.nm n, .nb k]
  | lst k => [.nb k]
  | no w => [.ws w]
  | both a b => [.ws a, .ws b]
  | any a b => [.ws a, .ws b]
theorem d_eq (w : Wi) : w.d = .tup (.str w.word :: w.parts.map Pa.d) := by cases w <;> rfl
theorem shp_eq (w : Wi) : shp w.word = some (w.parts.map Pa.kd) := by
  cases w
  · exact shp_in
  · exact shp_round
  · exact shp_least
  · exact shp_no
  · exact shp_both
  · exact shp_any
theorem parts_le (w : Wi) : w.parts.length ≤ 2 := by cases w <;> simp [parts]
theorem parts_ne (w : Wi) : w.parts ≠ [] := by cases w <;> simp [parts]
theorem deep_iff (w : Wi) (n : Nat) : w.deep ≤ n + 1 ↔ ∀ p ∈ w.parts, p.deep ≤ n := by cases w <;> simp [deep, parts, Pa.deep] <;> omega
end Wi
theorem name_len {s : Str} (h : nameOk s = true) : 1 ≤ s.length ∧ s.length ≤ 8 := by
  unfold nameOk at h
  simp only [Bool.and_eq_true, decide_eq_true_iff] at h
  exact ⟨h.1, h.2.1⟩
theorem name_ascii {s : Str} (h : nameOk s = true) : ∀ c ∈ s.cps.toList, c < 128 := fun c hc => by
  unfold nameOk at h
  simp only [Bool.and_eq_true, List.all_eq_true] at h
  have h1 := of_decide_eq_true (h.2.2 c hc)
  have : ∀ c ∈ letters.cps.toList, c < 128 := by decide +kernel
  exact this c h1
/-! ### wishes laid hold no lists -/
end L2

set_option linter.all false
set_option maxRecDepth 100000
set_option maxHeartbeats 4000000
namespace L2
open PySem PySem.Spec PyProof.Rows
theorem lookup2 {a b y : Str} {ca cb c : Addr} (h : [(a, ca), (b, cb)].lookup y = some c) : (y = a ∧ c = ca) ∨ (y = b ∧ c = cb) := by
  simp only [List.lookup_cons, List.lookup_nil] at h
  by_cases n1 : (y == a) = true
  · rw [n1] at h
    exact .inl ⟨beq_iff_eq.mp n1, (Option.some.inj h).symm⟩
  · rw [Bool.eq_false_iff.mpr n1] at h
    by_cases n2 : (y == b) = true
    · rw [n2] at h
      exact .inr ⟨beq_iff_eq.mp n2, (Option.some.inj h).symm⟩
    · rw [Bool.eq_false_iff.mpr n2] at h
      cases h
section
variable {X : Cx}
/-- a comprehension that catches two names -/
theorem pe_lcompD {x a b : Str} {px : Pos} {elt iter : Expr} {scope : Scope} {ca cb : Addr} {pos : Pos} {wi : TI} {te : TE} (ja jb : Nat)
    (hc : X.calm = true) (hi : PI X (.Name x px) iter wi)
    (hg : ∀ C fp s0 H0, PG (blk X [x, a, b] scope [(a, ca), (b, cb)] C fp s0 H0) (.Name x px) (gName 0)) (he : ∀ C fp s0 H0, PE (blk X [x, a, b] scope [(a, ca), (b, cb)] C fp s0 H0) elt te)
    (hclos : closureFor scope X.env = pure [(a, ca), (b, cb)]) (hkind : scope.kind = .function) (hnames : ∀ x ∈ scope.names, x.2 = .local → scope.names.lookup x.1 = some .local) (hcell : ∀ y ∈ scope.names, y.2 ≠ .cell)
    (h1 : X.env.cells.lookup a = some ca ∧ X.N[ja]? = some a ∧ X.env.kindOf a = some .cell ∧ (relabel scope X.env).names.lookup a = some .cell)
    (h2 : X.env.cells.lookup b = some cb ∧ X.N[jb]? = some b ∧ X.env.kindOf b = some .cell ∧ (relabel scope X.env).names.lookup b = some .cell)
    (hall : ((relabel scope X.env).names.all fun p => (p.2 != .cell && p.2 != .free) || (p.1 == a || p.1 == b)) = true)
    (hs : ∀ x, foldedSetIterable iter X.env x = pure x := by intro _; rfl) :
    PE X (.ListComp elt [⟨.Name x px, iter, [], 0⟩] scope pos) (tComp wi (fun σ => [none, (σ[ja]?).join, (σ[jb]?).join]) (gName 0) te) := by
  refine pe_lcomp (N' := [x, a, b]) (cl := [(a, ca), (b, cb)]) hc hi hg he hclos hkind hnames hcell (fun y' c' h => ?_) (fun y' h => ?_) (fun _ _ => rfl) (fun σ i y' v e1 e2 => ?_) hs
  · rcases lookup2 h with ⟨rfl, rfl⟩ | ⟨rfl, rfl⟩
    · exact h1.1
    · exact h2.1
  · rw [List.all_eq_true] at hall
    have key : ∀ k, (k = .cell ∨ k = .free) → (relabel scope X.env).names.lookup y' = some k → y' = a ∨ y' = b := fun k hk e => by
      have := hall _ (lookup_mem e)
      rcases hk with rfl | rfl
      · simpa using this
      · simpa using this
    have e : y' = a ∨ y' = b := by
      rcases h with h | h
      · exact key _ (.inl rfl) h
      · exact key _ (.inr rfl) h
    simp only [List.lookup_cons]
    by_cases n1 : (y' == a) = true
    · exact ⟨ca, by rw [n1]⟩
    · have n2 : (y' == b) = true := by
        rcases e with e | e
        · exact absurd (beq_iff_eq.mpr e) n1
        · exact beq_iff_eq.mpr e
      exact ⟨cb, by rw [Bool.eq_false_iff.mpr n1, n2]⟩
  · have js : ∀ {j : Nat}, (σ[j]?).join = some v → σ[j]? = some (some v) := fun {j} e => by
      cases h : σ[j]? with
      | none => rw [h] at e; cases e
      | some o => rw [h] at e; have : o = some v := e; rw [this]
    match i, e1, e2 with
    | 0, _, e2 => cases e2
    | 1, e1, e2 =>
      have e1' : a = y' := by simpa using e1
      subst e1'
      exact ⟨ja, h1.2.1, js (by simpa using e2), h1.2.2.1, h1.2.2.2⟩
    | 2, e1, e2 =>
      have e1' : b = y' := by simpa using e1
      subst e1'
      exact ⟨jb, h2.2.1, js (by simpa using e2), h2.2.2.1, h2.2.2.2⟩
    | i + 3, e1, _ => simp at e1
end
section
variable {K : PySem.W.Frag} {σ : St} {H : Hp} {D : Ends} {rest tb : TS}
/-- for .. in what is laid -/
theorem st_tuplG {g : TG} {te : TE} {RL : V → Hp → Prop} (h : Gv te σ H RL) (k : ∀ v H1, RL v H1 → tSeq (tFor (iTup K (tC v)) g tb) rest D σ H1) : tSeq (tFor (iTup K te) g tb) rest D σ H := h _ fun v H1 r => k v H1 r
end
section
variable {σ : St} {H : Hp} {te : TE}
theorem gv_compRG {ta : TA} {fr : St → St} {g : TG} {RA : List V → Hp → Prop} {R : V → Hp → Prop} (ha : GvA ta σ H RA) (hr : ∀ vs H1, RA vs H1 → ∃ n : Int, vs = [.int n] ∧ -(2 ^ 62) ≤ n ∧ n < 2 ^ 62 ∧ Gv (tComp (iRng1 (tCons (tC (.int n)) tNil)) fr g te) σ H1 R) : Gv (tComp (iRng1 ta) fr g te) σ H R := fun Q q =>
  ha _ fun vs H1 r => by
    obtain ⟨n, rfl, h1, h2, g⟩ := hr vs H1 r
    exact g Q q
end
/-- single signs joined -/
theorem join_signs : ∀ (cs : List Nat), (Str.join (Str.ofString "") (cs.map fun c => (⟨#[c]⟩ : Str))).cps.toList = cs
  | [] => rfl
  | [c] => rfl
  | c :: d :: r => by
    have ih := join_signs (d :: r)
    show ((⟨#[c]⟩ : Str) ++ Str.ofString "" ++ Str.join (Str.ofString "") ((d :: r).map fun c => (⟨#[c]⟩ : Str))).cps.toList = _
    rw [app_list, app_list, ih]
    have : (Str.ofString "").cps.toList = [] := by decide +kernel
    rw [this]
    rfl
end L2

set_option linter.all false
set_option maxRecDepth 100000
set_option maxHeartbeats 4000000
namespace L2
open PySem PySem.Spec PyProof.Rows
/-! ### lists of pairs as tables -/
section
variable {κ : Type} [DecidableEq κ]
def valV (kvs : List (κ × V)) (k : κ) : Option V := (kvs.find? fun kv => decide (kv.1 = k)).map (·.2)
/-- in its place, or at the end -/
def putK (kvs : List (κ × V)) (k : κ) (v : V) : List (κ × V) :=
  if (kvs.any fun kv => decide (kv.1 = k)) = true then kvs.map (fun kv => if kv.1 = k then (kv.1, v) else kv) else kvs ++ [(k, v)]

theorem valV_pos {p : κ × V} {r : List (κ × V)} {k : κ} (e : p.1 = k) : valV (p :: r) k = some p.2 := by simp [valV, List.find?_cons, e]
theorem valV_neg {p : κ × V} {r : List (κ × V)} {k : κ} (e : ¬ p.1 = k) : valV (p :: r) k = valV r k := by simp [valV, List.find?_cons, e]
theorem valV_any (k : κ) : ∀ kvs : List (κ × V), (kvs.any fun kv => decide (kv.1 = k)) = (valV kvs k).isSome
  | [] => rfl
  | p :: r => by
    rw [List.any_cons]
    by_cases e : p.1 = k
    · simp only [valV_pos e, decide_eq_true e, Bool.true_or, Option.isSome_some]
    · rw [valV_neg e, decide_eq_false e, Bool.false_or]; exact valV_any k r
theorem length_putK (kvs : List (κ × V)) (k : κ) (v : V) : (putK kvs k v).length ≤ kvs.length + 1 := by
  unfold putK
  split
  · rw [List.length_map]; omega
  · rw [List.length_append, List.length_cons, List.length_nil]; omega

theorem RelO.isSome_eq {o : Option V} {u : Option Value} (r : RelO o u) : o.isSome = u.isSome := by
  cases o with
  | none => cases u with
    | none => rfl
    | some _ => exact (show False from r).elim
  | some _ => cases u with
    | none => exact (show False from r).elim
    | some _ => rfl
theorem RelO.getD {o : Option V} {u : Option Value} {d : V} {d' : Value} (r : RelO o u) (rd : RelV d d') : RelV (o.getD d) (u.getD d') := by
  cases o with
  | none => cases u with
    | none => exact rd
    | some _ => exact (show False from r).elim
  | some _ => cases u with
    | none => exact (show False from r).elim
    | some _ => exact r

/-- raw tables of the same keys -/
theorem KV.val {kvs : List (κ × V)} {vs : List (κ × Value)} (r : KV kvs vs) (k : κ) : RelO (valV kvs k) (valueAt vs k) := by
  unfold KV at r
  induction r with
  | nil => exact True.intro
  | @cons p q ps qs h t ih =>
    obtain ⟨h1, h2⟩ := h
    by_cases e : p.1 = k
    · have e' : q.1 = k := h1.symm.trans e
      have b : valueAt (q :: qs) k = some q.2 := by simp [valueAt, List.find?_cons, e']
      rw [valV_pos e, b]; exact h2
    · have e' : ¬ q.1 = k := fun z => e (h1.trans z)
      have b : valueAt (q :: qs) k = valueAt qs k := by simp [valueAt, List.find?_cons, e']
      rw [valV_neg e, b]; exact ih
theorem KV.any {kvs : List (κ × V)} {vs : List (κ × Value)} (r : KV kvs vs) (k : κ) : (kvs.any fun kv => decide (kv.1 = k)) = vs.any fun kv => decide (kv.1 = k) := by
  unfold KV at r
  induction r with
  | nil => rfl
  | cons h t ih => rw [List.any_cons, List.any_cons, ih, h.1]
theorem KV.repl {kvs : List (κ × V)} {vs : List (κ × Value)} (r : KV kvs vs) (k : κ) {y : V} {u : Value} (ry : RelV y u) :
    KV (kvs.map fun kv => if kv.1 = k then (kv.1, y) else kv) (vs.map fun kv => if kv.1 = k then (kv.1, u) else kv) := by
  unfold KV at r ⊢
  induction r with
  | nil => exact .nil
  | @cons p q ps qs h t ih =>
    rw [List.map_cons, List.map_cons]
    refine .cons ?_ ih
    obtain ⟨h1, h2⟩ := h
    by_cases e : p.1 = k
    · rw [if_pos e, if_pos (h1.symm.trans e)]; exact ⟨h1, ry⟩
    · rw [if_neg e, if_neg (fun z => e (h1.trans z))]; exact ⟨h1, h2⟩
theorem KV.put {kvs : List (κ × V)} {vs : List (κ × Value)} (r : KV kvs vs) (k : κ) {y : V} {u : Value} (ry : RelV y u) : KV (putK kvs k y) (stored vs k u) := by
  unfold putK stored
  rw [r.any k]
  by_cases e : (vs.any fun kv => decide (kv.1 = k)) = true
  · rw [if_pos e, if_pos e]; exact r.repl k ry
  · rw [if_neg e, if_neg e]; exact Paired.snoc r ⟨rfl, ry⟩
theorem KV.length {kvs : List (κ × V)} {vs : List (κ × Value)} (r : KV kvs vs) : kvs.length = vs.length := Paired.length r
end


/-! ### a tracked dict, its keys ints and texts or tuples of these -/
theorem kV_is {P : Program} {w : World} {k : Key} {u : Value} (r : RelV (kV k) u) : (mixKind P w).is k u = true := by
  cases k with
  | inl i => obtain ⟨t, e⟩ := (show ∃ t, u = Value.int i t from r); subst e; exact mixKind_int P w i t
  | inr x => obtain ⟨t, e⟩ := (show ∃ t, u = Value.str x t from r); subst e; exact mixKind_str P w x t
theorem items_are {P : Program} {w : World} : ∀ {ks : List Key} {us : List Value}, Vals (ks.map kV) us → ItemsAre (mixKind P w) ks us
  | [], _, r => by rw [List.map_nil] at r; cases r; exact .nil
  | k :: ks, _, r => by
    rw [List.map_cons] at r
    cases r with
    | cons h t => exact .cons (kV_is h) (items_are t)

/-- raw entries of a dict with tuple keys -/
abbrev KT (H : Hp) : List (List Key × V) → List (List Key × Addr × Value) → Prop := Paired fun p q => p.1 = q.1 ∧ H q.2.1 = some (.tup (p.1.map kV)) ∧ RelV p.2 q.2.2
theorem KT.val {H : Hp} {kvs : List (List Key × V)} {xs : List (List Key × Addr × Value)} (r : KT H kvs xs) (k : List Key) : RelO (valV kvs k) ((atKey xs k).map (·.2)) := by
  induction r with
  | nil => exact True.intro
  | @cons p q ps qs h t ih =>
    obtain ⟨h1, _, h2⟩ := h
    by_cases e : p.1 = k
    · have e' : q.1 = k := h1.symm.trans e
      have b : atKey (q :: qs) k = some q.2 := by simp [atKey, List.find?_cons, e']
      rw [valV_pos e, b]; exact h2
    · have e' : ¬ q.1 = k := fun z => e (h1.trans z)
      have b : atKey (q :: qs) k = atKey qs k := by simp [atKey, List.find?_cons, e']
      rw [valV_neg e, b]; exact ih
theorem KT.repl {H : Hp} {kvs : List (List Key × V)} {xs : List (List Key × Addr × Value)} (r : KT H kvs xs) (k : List Key) {y : V} {u : Value} (ry : RelV y u) :
    KT H (kvs.map fun kv => if kv.1 = k then (kv.1, y) else kv) (xs.map (putAt k u)) := by
  induction r with
  | nil => exact .nil
  | @cons p q ps qs h t ih =>
    rw [List.map_cons, List.map_cons]
    refine .cons ?_ ih
    obtain ⟨h1, h2, h3⟩ := h
    unfold putAt
    by_cases e : p.1 = k
    · rw [if_pos e, if_pos (h1.symm.trans e)]; exact ⟨h1, h2, ry⟩
    · rw [if_neg e, if_neg (fun z => e (h1.trans z))]; exact ⟨h1, h2, h3⟩
theorem KT.put {H : Hp} {kvs : List (List Key × V)} {xs : List (List Key × Addr × Value)} (r : KT H kvs xs) (k : List Key) {b : Addr} {y : V} {u : Value} (hb : H b = some (.tup (k.map kV))) (ry : RelV y u) :
    KT H (putK kvs k y) (storedH xs k b u) := by
  have e : (kvs.any fun kv => decide (kv.1 = k)) = (atKey xs k).isSome := by
    rw [valV_any, (r.val k).isSome_eq, Option.isSome_map]
  unfold putK storedH
  rw [e]
  by_cases q : (atKey xs k).isSome = true
  · rw [if_pos q, if_pos q]; exact r.repl k ry
  · rw [if_neg q, if_neg q]; exact Paired.snoc r ⟨rfl, hb, ry⟩
theorem KT.keeps {H H' : Hp} {kvs : List (List Key × V)} {xs : List (List Key × Addr × Value)} (r : KT H kvs xs) (ht : ∀ b ys, H b = some (.tup ys) → H' b = some (.tup ys)) : KT H' kvs xs :=
  Paired.mapP r fun _ _ z => ⟨z.1, ht _ _ z.2.1, z.2.2⟩

section
variable {P : Program} {w : World} {H : Hp} {h : Heap} {a : Addr}
theorem rd_of {u : HO} (ok : HOk P w H h) (e : Rd H a u) : ObjOk P w H h a u := e.ok ok
theorem dk_rd {kvs : List (Key × V)} (ok : HOk P w H h) (e : Rd H a (.dK kvs)) : kvs.length ≤ sizeLine ∧ (a == sysModules) = false ∧ ∃ vs, KV kvs vs ∧ h.DictOf (mixKind P w) a vs :=
  show ObjOk P w H h a (.dK kvs) from rd_of ok e
theorem dk_of {kvs : List (Key × V)} (ok : HOk P w H h) (e : H a = some (.dK kvs)) : kvs.length ≤ sizeLine ∧ (a == sysModules) = false ∧ ∃ vs, KV kvs vs ∧ h.DictOf (mixKind P w) a vs := dk_rd ok (.inl e)
/-- a tracked tuple of ints and texts is a key -/
theorem key_of {ks : List Key} (ok : HOk P w H h) (e : H a = some (.tup (ks.map kV))) : (tupleKind (mixKind P w)).is h ks a := by
  obtain ⟨_, its, r, o, h1, h2, n, h3⟩ := (show ObjOk P w H h a (.tup (ks.map kV)) from ok a _ e)
  exact ⟨o, its.toArray, n, h1, h2, h3, by simpa using items_are r⟩
theorem dt_rd {kvs : List (List Key × V)} (ok : HOk P w H h) (e : Rd H a (.dT kvs)) : kvs.length ≤ sizeLine ∧ (a == sysModules) = false ∧
    ∃ xs, KT H kvs xs ∧ h.DictOfH (tupleKind (mixKind P w)) a xs := by
  obtain ⟨z, y, xs, r, o, es, ep, h1, h2, h3, h4, h5⟩ := (show ObjOk P w H h a (.dT kvs) from rd_of ok e)
  refine ⟨z, y, xs, r, o, es, ep, h1, h2, h3, h4, fun x hx => ?_, h5⟩
  have all : ∀ {l : List (List Key × V)} {m : List (List Key × Addr × Value)}, KT H l m → ∀ x ∈ m, (tupleKind (mixKind P w)).is h x.1 x.2.1 := by
    intro l m q
    induction q with
    | nil => intro x hx; exact nomatch hx
    | @cons p q ps qs hq t ih =>
      intro x hx
      rcases List.mem_cons.mp hx with e | hx
      · subst e
        exact key_of ok (by rw [← hq.1]; exact hq.2.1)
      · exact ih x hx
  exact all r x hx
theorem dt_of {kvs : List (List Key × V)} (ok : HOk P w H h) (e : H a = some (.dT kvs)) : kvs.length ≤ sizeLine ∧ (a == sysModules) = false ∧
    ∃ xs, KT H kvs xs ∧ h.DictOfH (tupleKind (mixKind P w)) a xs := dt_rd ok (.inl e)
end

/-- what the dict at a holds at the key y -/
def DGet (H : Hp) (a : Addr) (y : V) (r : Option V) : Prop :=
  (∃ kvs k, Rd H a (.dK kvs) ∧ y = kV k ∧ r = valV kvs k) ∨ ∃ kvs k b, Rd H a (.dT kvs) ∧ y = .ref b ∧ H b = some (.tup (k.map kV)) ∧ r = valV kvs k
/-- the heap behind a[y] = v -/
def DPut (H : Hp) (a : Addr) (y v : V) (H' : Hp) : Prop :=
  (∃ kvs k, H a = some (.dK kvs) ∧ y = kV k ∧ kvs.length < sizeLine ∧ H' = upd H a (.dK (putK kvs k v))) ∨
  ∃ kvs k b, H a = some (.dT kvs) ∧ y = .ref b ∧ H b = some (.tup (k.map kV)) ∧ kvs.length < sizeLine ∧ H' = upd H a (.dT (putK kvs k v))


section
variable {X : Cx} {pins : List (Addr × Obj)} {σ : St} {H : Hp} {s : Shared} {a : Addr} {y v : V} {u r : Value} {o : Option V} {A : Around} {E : Value → Shared → Prop}

theorem Inv.big (I : Inv X pins σ H s) : sysModules < s.heap.objs.size := by
  have h : mainGlobals < s.heap.objs.size := (I.mod.glob.keeps I.bk).lt
  exact Nat.lt_trans (by decide) h

/-- d[y], there -/
theorem d_getItem {Q : Value → Shared → Prop} (hu : A.units + 1 < cLine) (I : Inv X pins σ H s) (g : DGet H a y (some v)) (ry : RelV y u) (h : ∀ w' s', Inv X pins σ H s' → RelV v w' → Q w' s') :
    wpAny (model X.prog X.w) A (getItem (.ref a) u) Q E s := by
  rcases g with ⟨kvs, k, e, ey, l⟩ | ⟨kvs, k, b, e, ey, eb, l⟩
  · subst ey
    obtain ⟨z, hd, vs, rel, dd⟩ := dk_rd I.hok e
    obtain ⟨w', hw, rw'⟩ := RelO.some_of (v := v) (o := valueAt vs k) (by rw [l]; exact rel.val k)
    exact wpAny_getItem_of (kV_is ry) dd.mapOf hw (h w' _ (I.tok _) rw')
  · subst ey
    cases (show u = Value.ref b from ry)
    obtain ⟨z, hd, xs, rel, dd⟩ := dt_rd I.hok e
    obtain ⟨w', hw, rw'⟩ := RelO.some_of (v := v) (o := (atKey xs k).map (·.2)) (by rw [l]; exact rel.val k)
    obtain ⟨p, hp, hp2⟩ := Option.map_eq_some_iff.mp hw
    refine wpAny_getItem_heap (tupleKind_room_in1 hu) (key_of I.hok eb) dd hp ?_
    rw [hp2]
    exact h w' _ (I.tok _) rw'
/-- a dict's object is replaced -/
theorem d_write {h' : Heap} {t' : Nat} {ob : HO} (I : Inv X pins σ H s) (mu : Mut (H a)) (hs : Heap.SameBut a s.heap h') (he : ∃ q, h'.get? a = some q) (new : ObjOk X.prog X.w (upd H a ob) h' a ob) :
    Inv X pins σ (upd H a ob) { s with heap := h', toks := t' } :=
  I.write (x := a) (e := a) mu (.inl rfl) (fun b q hb z => (hs.2 b hb).trans z) he new
theorem dk_new {P : Program} {w : World} {H' : Hp} {h' : Heap} {kvs : List (Key × V)} {vs : List (Key × Value)} (z : kvs.length ≤ sizeLine) (hd : (a == sysModules) = false) (rel : KV kvs vs) (dd : h'.DictOf (mixKind P w) a vs) :
    ObjOk P w H' h' a (.dK kvs) := ⟨z, hd, vs, rel, dd⟩
/-- d[y] = v -/
theorem d_setItem {H' : Hp} {Q : Unit → Shared → Prop} (hu : A.units + 1 < cLine) (I : Inv X pins σ H s) (g : DPut H a y v H') (ry : RelV y u) (rv : RelV v r) (h : ∀ s', Inv X pins σ H' s' → Q () s') :
    wpAny (model X.prog X.w) A (setItem (.ref a) u r) Q E s := by
  rcases g with ⟨kvs, k, e, ey, l, eH⟩ | ⟨kvs, k, b, e, ey, eb, l, eH⟩
  · subst ey eH
    obtain ⟨z, hd, vs, rel, dd⟩ := dk_of I.hok e
    have hz : vs.length ≤ sizeLine := by rw [← rel.length]; exact z
    have hl : (putK kvs k v).length ≤ sizeLine := by have := length_putK kvs k v; omega
    refine wpAny_setItem_pairs (hsz := hz) (kV_is ry) dd fun h' dd' hs => h _ ?_
    have he : ∃ q, h'.get? a = some q := let ⟨q, _, _, hq, _⟩ := dd'; ⟨q, hq⟩
    exact d_write I (by rw [e]; exact True.intro) hs he (dk_new hl hd (rel.put k rv) dd')
  · subst ey eH
    cases (show u = Value.ref b from ry)
    obtain ⟨z, hd, xs, rel, dd⟩ := dt_of I.hok e
    have hz : xs.length ≤ sizeLine := by rw [← Paired.length rel]; exact z
    have hl : (putK kvs k v).length ≤ sizeLine := by have := length_putK kvs k v; omega
    refine wpAny_setItem_heap (hsz := hz) (tupleKind_room_in1 hu) (key_of I.hok eb) dd fun h' dd' hs => h _ ?_
    obtain ⟨q, es, ep, hq, h2, h3, h4, _, h5⟩ := dd'
    refine d_write I (by rw [e]; exact True.intro) hs ⟨q, hq⟩ ⟨hl, hd, _, (rel.put k eb rv).keeps fun c ys ec => ?_, q, es, ep, hq, h2, h3, h4, h5⟩
    rw [upd_ne (ne_of ec e (fun z => nomatch z))]
    exact ec
end



/-! ### readings and rules -/
/-- the element of a subscription, not a slice -/
def NoSl (i : Expr) : Prop := ∀ ov iv, subscripted i false ov iv = operate [ov, iv] (getItem ov iv)
theorem subD_of {prog : Program} {w : World} {A : Around} {E : Value → Shared → Prop} {s : Shared} {env : Env} {value slice : Expr} {pos : Pos} {T id : String} {Q : Value → Shared → Prop}
    (hl : typeLookup (.type T) "__getitem__" = pure (some (.builtin id))) (hs : NoSl slice)
    (h : wpAny (model prog w) A (eval value env) (fun o s₁ => wpAny (model prog w) A (eval slice env) (fun i s₂ => s₂.TypeIs o T ∧ wpAny (model prog w) A (getItem o i) Q E s₂) E s₁) E s) :
    wpAny (model prog w) A (eval (.Subscript value slice pos) env) Q E s := by
  refine Subscript_ (wpAny_mono h (fun o s₁ h₁ => wpAny_mono h₁ (fun i s₂ h₂ => ?_) fun _ _ x => x) fun _ _ x => x)
  obtain ⟨hT, h₂⟩ := h₂
  unfold subscriptTail
  refine wpAny_bind ?_
  rw [getitemInPython_of_ne hT.not_modules]
  refine wpAny_bind (wpAny_specialOf hT hl ?_)
  have fin : wpAny (model prog w) A (subscripted slice false o i) (fun r s₃ => wpAny (model prog w) A (letTemporaryGo value o r >>= fun _ => pure r) Q E s₃) E s₂ := by
    rw [hs o i]
    exact wpAny_operating (wpAny_mono h₂ (fun r s₃ h₃ => wpAny_bind (wpAny_letTemporaryGo (wpAny_pure h₃))) fun _ _ x => x)
  first
    | exact wpAny_pure (wpAny_bind fin)
    | exact wpAny_bind (wpAny_pure (wpAny_bind fin))
    | exact wpAny_bind fin

theorem dict_typeIs {X : Cx} {pins : List (Addr × Obj)} {σ : St} {H : Hp} {s : Shared} {a : Addr} {y : V} {o : Option V} (I : Inv X pins σ H s) (g : DGet H a y o) : s.TypeIs (.ref a) "dict" := by
  rcases g with ⟨kvs, k, e, _, _⟩ | ⟨kvs, k, b, e, _, _, _⟩
  · obtain ⟨_, _, vs, _, dd⟩ := dk_rd I.hok e
    exact dd.typeIs
  · obtain ⟨_, _, xs, _, dd⟩ := dt_rd I.hok e
    exact dd.typeIs

/-- d[y] -/
def tDGet (td ty : TE) : TE := fun σ H Q => td σ H fun x H1 => ty σ H1 fun y H2 => ∃ a v, x = .ref a ∧ DGet H2 a y (some v) ∧ Q v H2
/-- d[y] = v -/
def sDPut (td ty tv : TE) : TS := fun D σ H => tv σ H fun v H1 => td σ H1 fun x H2 => ty σ H2 fun y H3 => ∃ a H4, x = .ref a ∧ DPut H3 a y v H4 ∧ D.nx σ H4

section
variable {X : Cx} {o i e value : Expr} {pos pos' tpos : Pos} {td ty tv : TE}
theorem pe_dget (hu : X.A.units + 1 < cLine) (ho : PE X o td) (hi : PE X i ty) (hs : NoSl i) : PE X (.Subscript o i pos) (tDGet td ty) := by
  intro pins s σ H Q I h
  refine subD_of PySem.F.slot_dict_getitem.lookup hs (thn (ho pins s σ H _ I h) fun u s1 ⟨x, H1, I1, rx, q1⟩ => thn (hi pins s1 σ H1 _ I1 q1) fun iv s2 ⟨y, H2, I2, ry, a, v, ex, g, q2⟩ => ?_)
  subst ex
  obtain rfl : u = Value.ref a := rx
  exact ⟨dict_typeIs I2 g, d_getItem hu I2 g ry fun w' s3 I3 rw' => ⟨v, H2, I3, rw', q2⟩⟩
theorem ps_dput (hu : X.A.units + 1 < cLine) (ho : PE X o td) (hi : PE X i ty) (hv : PE X value tv) (hs : swapsWith value (some (.Subscript o i pos')) pos.line X.env = pure false) :
    PS X (.Assign [.Subscript o i pos'] value pos) (sDPut td ty tv) := by
  intro pins s σ H D I h
  refine wpAny_Assign_Subscript (thn (hv pins s σ H _ I h) fun r s1 ⟨v, H1, I1, rv, q1⟩ => thn (ho pins s1 σ H1 _ I1 q1) fun u s2 ⟨x, H2, I2, rx, q2⟩ => thn (hi pins s2 σ H2 _ I2 q2) fun iv s3 ⟨y, H3, I3, ry, a, H4, ex, g, q3⟩ => ?_) hs
  subst ex
  obtain rfl : u = Value.ref a := rx
  exact d_setItem hu I3 g ry rv fun s4 I4 => ⟨σ, H4, I4, q3⟩
end


/-! ### displays -/
theorem dk_empty {P : Program} {w : World} {H : Hp} (h : Heap) (hb : sysModules < h.objs.size) : ObjOk P w H (h.push { cls := .type "dict", data := .dict #[] }) h.objs.size (.dK []) :=
  ⟨Nat.zero_le _, beq_eq_false_iff_ne.mpr (Ne.symm (Nat.ne_of_lt hb)), [], .nil, Heap.DictOf.new h⟩
/-- {}, to be a dict of the kind that is wanted -/
def tDNewK : TE := fun _ H Q => ∀ p, H p = none → Q (.ref p) (upd H p (.dK []))
section
variable {X : Cx} {pos : Pos}
theorem pe_dnewK : PE X (.Dict [] [] pos) tDNewK := fun pins s σ H Q I h =>
  wpAny_Dict_empty ⟨.ref s.heap.objs.size, _, I.laid (a := s.heap.objs.size) (o := .dK []) (t' := s.toks) (fun _ _ q => Heap.get?_push_of_some _ q) (Nat.le_refl _) (dk_empty s.heap I.big), rfl, h _ (I.hok.fresh (Nat.le_refl _))⟩
end




/-! ### methods -/
structure M2 (X : Cx) (o : Expr) (m : Str) (apos : Pos) (e f : Expr) (cpos : Pos) : Prop where
  base : attributeBase o m X.env (eval o X.env) = eval o X.env
  few : ((backTo cpos (starEach [e, f] X.env)).all (fun x => !x.1) && (backToKw cpos (keywordEach [] X.env)).all (fun x => x.1.isSome)
    && decide (([e, f] : List Expr).length + ([] : List Keyword).length + (if ([] : List Keyword).isEmpty then 0 else 1) < 30)) = true
  line : (apos.endLine == cpos.line) = true
  trees : backTo cpos (starEach [e, f] X.env) = [(false, eval e X.env), (false, eval f X.env)]

/-- a is a dict, whatever its keys -/
def IsD (H : Hp) (a : Addr) : Prop := (∃ kvs, Rd H a (.dK kvs)) ∨ ∃ kvs, Rd H a (.dT kvs)
theorem isD_at {X : Cx} {pins : List (Addr × Obj)} {σ : St} {H : Hp} {s : Shared} {a : Addr} (I : Inv X pins σ H s) (d : IsD H a) :
    s.TypeIs (.ref a) "dict" ∧ (∀ b, Value.ref a = .ref b → ∃ ob, s.heap.get? b = some ob ∧ ob.dict = none) ∧ (a == sysModules) = false := by
  rcases d with ⟨kvs, e⟩ | ⟨kvs, e⟩
  · obtain ⟨_, hd, vs, _, dd⟩ := dk_rd I.hok e
    refine ⟨dd.typeIs, fun b q => ?_, hd⟩
    cases q
    obtain ⟨ob, _, _, h1, h2, _⟩ := dd
    exact ⟨ob, h1, h2.2.1⟩
  · obtain ⟨_, hd, xs, _, dd⟩ := dt_rd I.hok e
    refine ⟨dd.typeIs, fun b q => ?_, hd⟩
    cases q
    obtain ⟨ob, _, _, h1, h2, _⟩ := dd
    exact ⟨ob, h1, h2.2.1⟩

section
variable {X : Cx} {pins : List (Addr × Obj)} {σ : St} {H : Hp} {s : Shared} {a : Addr} {y d : V} {u r : Value} {o : Option V} {A : Around} {E : Value → Shared → Prop}
/-- d.get(y, x) -/
theorem d_get2 {Q : Value → Shared → Prop} (hu : A.units + 1 < cLine) (I : Inv X pins σ H s) (g : DGet H a y o) (ry : RelV y u) (rd : RelV d r) (h : ∀ w' s', Inv X pins σ H s' → RelV (o.getD d) w' → Q w' s') :
    wpAny (model X.prog X.w) A (call (.builtin "dict.get") [.ref a, u, r]) Q E s := by
  rcases g with ⟨kvs, k, e, ey, l⟩ | ⟨kvs, k, b, e, ey, eb, l⟩
  · subst ey
    obtain ⟨z, hd, vs, rel, dd⟩ := dk_rd I.hok e
    refine call_meetsIn PySem.F.slot_dict_get dd.typeIs PySem.F.entry_dict_get (PySem.F.args_dict_get_3 _ _ _) (meets_dict_get_default (mixKind X.prog X.w) a (kV_is ry) hd r) ⟨_, dd.mapOf, h _ _ (I.tok _) ?_⟩
    rw [l]
    exact (rel.val k).getD rd
  · subst ey
    cases (show u = Value.ref b from ry)
    obtain ⟨z, hd, xs, rel, dd⟩ := dt_rd I.hok e
    refine call_meetsIn PySem.F.slot_dict_get dd.typeIs PySem.F.entry_dict_get (PySem.F.args_dict_get_3 _ _ _) (meetsH_dict_get_default (tupleKind (mixKind X.prog X.w)) a b hd r) ⟨tupleKind_room_in1 hu, k, xs, key_of I.hok eb, dd, h _ _ (I.tok _) ?_⟩
    rw [l]
    exact (rel.val k).getD rd
end

def tDGet2 (td ty tx : TE) : TE := fun σ H Q => td σ H fun x H1 => ∃ a, x = .ref a ∧ IsD H1 a ∧ ty σ H1 fun y H2 => tx σ H2 fun z H3 => ∃ o, DGet H3 a y o ∧ Q (o.getD z) H3
section
variable {X : Cx} {o e f : Expr} {apos cpos : Pos} {td ty tx : TE}
theorem pe_dget2 (hu : X.A.units + 1 < cLine) (ho : PE X o td) (he : PE X e ty) (hf : PE X f tx) (m : M2 X o "get" apos e f cpos) : PE X (.Call (.Attribute o "get" apos) [e, f] [] cpos) (tDGet2 td ty tx) := by
  intro pins s σ H Q I h
  refine wpAny_Call_method m.base m.few m.line PySem.F.plainAttrs_dict PySem.F.slot_dict_get PySem.F.type_dict_get (thn (ho pins s σ H _ I h) fun u s1 ⟨x, H1, I1, rx, a, ex, d, q1⟩ => ?_)
  subst ex
  obtain rfl : u = Value.ref a := rx
  obtain ⟨t1, t2, _⟩ := isD_at I1 d
  refine ⟨t1, t2, ?_⟩
  rw [m.trees]
  refine Calls.callWith_builtin rfl (Calls.evalArgs_plain (Calls.spliced_cons (thn (he pins s1 σ H1 _ I1 q1) fun iv s2 ⟨y, H2, I2, ry, q2⟩ =>
    Calls.spliced_cons (thn (hf pins s2 σ H2 _ I2 q2) fun fv s3 ⟨z, H3, I3, rz, ov, g, q3⟩ => Calls.spliced_nil ?_))))
  exact d_get2 hu I3 g ry rz fun w' s4 I4 rw' => ⟨_, H3, I4, rw', q3⟩
end

/-! ### dict(d): a copy -/
section
variable {X : Cx} {pins : List (Addr × Obj)} {σ : St} {H : Hp} {s : Shared} {a : Addr} {kvs : List (Key × V)} {A : Around} {E : Value → Shared → Prop}
theorem d_copyOf {Q : Value → Shared → Prop} (I : Inv X pins σ H s) (e : Rd H a (.dK kvs)) (h : ∀ p s', H p = none → Inv X pins σ (upd H p (.dK kvs)) s' → Q (.ref p) s') : wpAny (model X.prog X.w) A (call (.type "dict") [.ref a]) Q E s := by
  obtain ⟨z, hd, vs, rel, dd⟩ := dk_rd I.hok e
  refine kt_call_dict hd dd (by rw [← rel.length]; exact z) fun h' dd' hs => ?_
  refine h _ _ (I.hok.fresh (Nat.le_refl _)) (I.laid (a := s.heap.objs.size) (o := .dK kvs) (t' := s.toks) (fun b q hq => ?_) (Nat.le_refl _) (dk_new z (beq_eq_false_iff_ne.mpr (Ne.symm (Nat.ne_of_lt I.big))) rel dd'))
  exact (hs.2 b (Nat.ne_of_lt (Heap.lt_size hq))).trans (Heap.get?_push_of_some _ hq)
end


end L2

namespace L2
open PySem PySem.Spec PyProof.Rows
/-! ### a dict's pairs: keys that differ -/
section
variable {κ : Type} [DecidableEq κ]
theorem nd_snoc : ∀ {l : List κ} {k : κ}, l.Nodup → ¬ k ∈ l → (l ++ [k]).Nodup
  | [], k, _, _ => by simp
  | a :: r, k, h, hk => by
    obtain ⟨h1, h2⟩ := List.nodup_cons.mp h
    show (a :: (r ++ [k])).Nodup
    refine List.nodup_cons.mpr ⟨fun m => ?_, nd_snoc h2 fun m => hk (List.mem_cons.mpr (Or.inr m))⟩
    rcases List.mem_append.mp m with q | q
    · exact h1 q
    · exact hk (List.mem_cons.mpr (Or.inl (List.mem_singleton.mp q).symm))
end
end L2

set_option linter.all false
set_option maxRecDepth 100000
set_option maxHeartbeats 4000000
namespace L2
open PySem PySem.Spec PyProof.Rows
/-! ### a comprehension with one condition -/
def tCompF (wi : TI) (fr : St → St) (g : TG) (tc : TT) (te : TE) : TE := fun σ H Q => wi σ H fun J H1 => ∀ D, H1 D = none → ∃ W : Nat → Nat → List V → Hp → Prop, (∃ m, W 0 m [] (upd H1 D (.lst []))) ∧
  ∀ i m ys H2, W i m ys H2 → (J.stop i H2 ∧ Q (.ref D) H2) ∨ (J.go i H2 ∧ ys.length < sizeLine ∧ ∀ x H3, J.yld i H2 x H3 → g x (fr σ) H3 fun σ2 H3' => KeepS (fr σ) σ2 ∧ tc σ2 H3' fun b H4 =>
    match b with
    | false => ∃ m', m' < m ∧ W (i + 1) m' ys H4
    | true => te σ2 H4 fun y H5 => H5 D = some (.lst ys) ∧ ∃ m', m' < m ∧ W (i + 1) m' (ys ++ [y]) (upd H5 D (.lst (ys ++ [y]))))
section
variable {X : Cx}
theorem pe_lcompF {tg elt iter cnd : Expr} {scope : Scope} {cl : List (Str × Addr)} {pos : Pos} {N' : List Str} {wi : TI} {fr : St → St} {g : TG} {te : TE} {tc : TT}
    (hc : X.calm = true) (hi : PI X tg iter wi)
    (hg : ∀ C fp s0 H0, PG (blk X N' scope cl C fp s0 H0) tg g) (hq : ∀ C fp s0 H0, PT (blk X N' scope cl C fp s0 H0) cnd tc) (he : ∀ C fp s0 H0, PE (blk X N' scope cl C fp s0 H0) elt te)
    (hclos : closureFor scope X.env = pure cl) (hkind : scope.kind = .function) (hnames : ∀ x ∈ scope.names, x.2 = .local → scope.names.lookup x.1 = some .local) (hcell : ∀ y ∈ scope.names, y.2 ≠ .cell)
    (hcl : ∀ y c, cl.lookup y = some c → X.env.cells.lookup y = some c) (hhas : ∀ y, ((relabel scope X.env).names.lookup y = some .cell ∨ (relabel scope X.env).names.lookup y = some .free) → ∃ c, cl.lookup y = some c)
    (hfl : ∀ σ : St, σ.length = X.N.length → (fr σ).length = N'.length)
    (hfr : ∀ (σ : St) (i : Nat) (y : Str) (v : V), N'[i]? = some y → (fr σ)[i]? = some (some v) → ∃ j : Nat, X.N[j]? = some y ∧ σ[j]? = some (some v) ∧ X.env.kindOf y = some .cell ∧ (relabel scope X.env).names.lookup y = some .cell)
    (hs : ∀ x, foldedSetIterable iter X.env x = pure x := by intro _; rfl) :
    PE X (.ListComp elt [⟨tg, iter, [cnd], 0⟩] scope pos) (tCompF wi fr g tc te) := by
  intro pins s σ H Q I h
  rw [eval_ListComp]
  refine wpAny_comprehension_free (use := none) rfl hs hclos hkind hnames ?_
  refine thn (hi pins s σ H _ I h) fun v s1 h1 => thn h1 fun itv s2 h2 => ?_
  obtain ⟨it, fp, tn, J, H2, rfl, I2, T, st2, f2, q2⟩ := h2
  have D0 : H2 s2.heap.objs.size = none := I2.hok.fresh (Nat.le_refl _)
  obtain ⟨W, ⟨m0, w0⟩, turn⟩ := q2 _ D0
  refine wpAny_newObj_type (wpAny_newFunctionEnv hcell (by intro y hy; simp at hy) (fun h₁ hns₁ hsb₁ => ?_) hkind)
  dsimp only at hns₁ hsb₁ ⊢
  have I3 : Inv X pins σ (upd H2 s2.heap.objs.size (.lst [])) { s2 with heap := s2.heap.push { cls := .type "list", dict := none, data := .seq ([] : List Value).toArray } } :=
    I2.laid (t' := s2.toks) (fun b u e => Heap.get?_push_of_some _ e) (Nat.le_refl _) ⟨Nat.zero_le _, [], _, .nil, Heap.get?_push_size _ rfl⟩
  generalize hH3 : upd H2 s2.heap.objs.size (.lst []) = H3 at I3 w0
  generalize hs3 : ({ s2 with heap := s2.heap.push { cls := .type "list", dict := none, data := .seq ([] : List Value).toArray } } : Shared) = s3 at I3
  have eh : s3.heap = s2.heap.push { cls := .type "list", dict := none, data := .seq ([] : List Value).toArray } := by rw [← hs3]
  have fl : ∀ b ∈ fp, b < s2.heap.objs.size := fun b hb => by
    obtain ⟨o, e, _⟩ := T.obj 0 _ st2 b hb
    exact Heap.lt_size e
  have fn : ∀ b ∈ fp, H3 b = none := fun b hb => by
    rw [← hH3, upd_ne (Nat.ne_of_lt (fl b hb))]; exact (f2 b hb).1
  have f3 : ∀ b ∈ fp, FpOk X pins H3 b := fun b hb => ⟨fn b hb, (f2 b hb).2⟩
  have old : ∀ b u, s3.heap.get? b = some u → h₁.get? b = some u := fun b u e => by
    refine hsb₁.extBut b u ?_ (Heap.get?_push_of_some _ (by rw [← eh]; exact e))
    have := Heap.lt_size e
    rw [eh] at this
    exact Nat.ne_of_lt this
  have up : ∀ b u, s2.heap.get? b = some u → s3.heap.get? b = some u := fun b u e => by rw [eh]; exact Heap.get?_push_of_some _ e
  have ok := blk_ok (N' := N') (scope := scope) (cl := cl) (fp := fp) I3 hkind hcl hhas f3 fun b hb => by rw [eh, Heap.size_push]; exact Nat.lt_succ_of_lt (fl b hb)
  rw [← eh] at hns₁ ⊢
  have IB : Inv (blk X N' scope cl s3.heap.objs.size fp s3 H3) [] (fr σ) H3 { s3 with heap := h₁, toks := s2.toks + ([] : List (Str × Value)).length } := by
    refine ⟨ok, rfl, I3.bare, Un.kept old, ⟨_, hns₁, fun i y v e1 e2 e3 => ?_⟩, fun x c e => ?_, I3.hok.fresh (Nat.le_refl _), fun x c e => I3.freeC x c (hcl x c e), fun p hp => by simp [blk] at hp, I3.hok.kept old, hfl σ I3.len⟩
    · obtain ⟨j, n1, n2, n3, n4⟩ := hfr σ i y v e1 e2
      obtain ⟨m, _, hl⟩ := I3.loc
      obtain ⟨u, r, l⟩ := hl j y v n1 n2 (.inr (.inl n3))
      refine ⟨u, r, .inr ⟨.inl n4, ?_⟩⟩
      rcases l with ⟨k, _⟩ | ⟨_, c, e, ic⟩
      · rw [n3] at k; cases k
      · obtain ⟨c', e'⟩ := hhas y (.inl n4)
        have e'' := hcl y c' e'
        rw [e] at e''; cases e''
        obtain ⟨o, ho, hd⟩ := ic
        exact ⟨c, e', o, old c o ho, hd⟩
    · obtain ⟨v, o, ho, hd⟩ := I3.cell x c (hcl x c e)
      exact ⟨v, o, old c o ho, hd⟩
  have stB : tn 0 h₁ := T.keep _ _ _ st2 fun b hb o e => old b o (up b o e)
  have D2 : s2.heap.objs.size < s3.heap.objs.size := by rw [eh, Heap.size_push]; exact Nat.lt_succ_self _
  have stat : ∀ {H' : Hp}, (∀ b ∈ fp, H' b = none) → ∀ b ∈ fp, FpOk (blk X N' scope cl s3.heap.objs.size fp s3 H3) [] H' b := fun hn b hb =>
    ⟨hn b hb, Nat.ne_of_lt (Nat.lt_trans (fl b hb) D2), ok.exfs b hb, .inl hb, fun x c e => (ok.exf b hb).2 x c e, fun p hp => by simp [blk] at hp⟩
  have loop : codeAny (model X.prog X.w) X.A (.compLoop (.ListComp elt [⟨tg, iter, [cnd], 0⟩] scope pos) 0 (.ref it) (.ref s2.heap.objs.size) (compEnvC scope cl s3.heap.objs.size X.env))
      (compPost (model X.prog X.w) X.A X.xe none (EP X pins σ Q) (.ref s2.heap.objs.size) s3.heap.objs.size) { s3 with heap := h₁, toks := s2.toks + ([] : List (Str × Value)).length } := by
    refine codeAny_loop rfl (fun n s' => ∃ i ys H', Inv (blk X N' scope cl s3.heap.objs.size fp s3 H3) [] (fr σ) H' s' ∧ tn i s'.heap ∧ (∀ b ∈ fp, H' b = none) ∧ W i n ys H') ?_ m0 ⟨0, [], H3, IB, stB, fn, w0⟩
    rintro n s4 ⟨i, ys, H4, I4, st4, fr4, w4⟩
    show wpAny _ _ ((compTurn (.ListComp elt [⟨tg, iter, [cnd], 0⟩] scope pos) 0 (.ref it) (.ref s2.heap.objs.size) (compEnvC scope cl s3.heap.objs.size X.env)).onRaise (fun x => do noteFrame x (compEnvC scope cl s3.heap.objs.size X.env); theTreesLotGoes x)) _ _ s4
    refine wpAny_noted ?_
    rw [compTurn_list]
    refine wpAny_bind (wpAny_standAt (wpAny_bind ?_))
    rcases turn i n ys H4 w4 with ⟨stop, qn⟩ | ⟨go, hz, step⟩
    · refine thn (T.done (blk X N' scope cl s3.heap.objs.size fp s3 H3) rfl rfl rfl hc i [] s4 (fr σ) H4 _ I4 (stat fr4) st4 stop) fun r s5 ⟨hr, I5⟩ => ?_
      subst hr
      refine wpAny_pure ?_
      obtain ⟨m, hn, _⟩ := I5.loc
      refine ⟨m, hn, fun h' sb => ⟨.ref s2.heap.objs.size, H4, ?_, rfl, qn⟩⟩
      have hb : ∀ b u, b ≠ s3.heap.objs.size → s5.heap.get? b = some u → h'.get? b = some u := fun b u n e => sb.extBut b u n e
      have hlt : ∀ b u, s3.heap.get? b = some u → b ≠ s3.heap.objs.size := fun b u e => Nat.ne_of_lt (Heap.lt_size e)
      have B := I5.base
      refine I3.call' (s' := { s5 with heap := h' }) (ch := fp) I5.os ⟨fun b o e n1 n2 n3 => hb b o (hlt b o e) (B.keep b o e n1 n2 n3), fun b o e n1 n2 n3 => ?_, B.free, fun b o e n1 => ?_, B.tups, B.frzs, B.tbls⟩ (fun a o e => ?_) I5.bare (fun b hb' => ?_)
      · obtain ⟨sl, z⟩ := B.slot b o e n1 n2 n3
        exact ⟨sl, hb b _ (hlt b o e) z⟩
      · obtain ⟨o', z⟩ := B.there b o e n1
        exact ⟨o', hb b _ (hlt b o e) z⟩
      · have nC : ∀ c u, H4 c = some u → c ≠ s3.heap.objs.size := fun c u z w => by
          have := I5.free
          rw [show (blk X N' scope cl s3.heap.objs.size fp s3 H3).env.locals = s3.heap.objs.size from rfl, ← w, z] at this
          cases this
        refine (I5.hok a o e).stay (fun c u hcu q => hb c u ?_ q) (fun _ q => q) fun _ _ q => q
        rcases hcu with z | z
        · rw [z]; exact nC a o e
        · exact nC c _ z
      · exact ⟨(f2 b hb').2.2.2.1, (f2 b hb').2.1, (f2 b hb').2.2.2.2.1, (f2 b hb').2.2.2.2.2⟩
    · refine thn (T.item (blk X N' scope cl s3.heap.objs.size fp s3 H3) rfl rfl rfl hc i [] s4 (fr σ) H4 _ I4 (stat fr4) st4 go) fun r s5 ⟨u, hr, h5⟩ => ?_
      subst hr
      refine wpAny_bind (thn h5 fun _ s6 ⟨x, H6, I6, r6, y6, st6, fr6⟩ => ?_)
      have I6' := I6.pinned (stat fr6) (T.obj _ _ st6)
      refine wpAny_bind (wpAny_mono (hg s3.heap.objs.size fp s3 H3 _ s6 (fr σ) H6 x u _ I6' r6 (step x H6 y6)) (fun _ s7 ⟨σ7, H7, I7, kp, q7⟩ => ?_) fun _ _ z => z.elim)
      refine wpAny_bind (wpAny_mono (wpAny_tests_one (wpAny_mono (hq s3.heap.objs.size fp s3 H3 _ s7 σ7 H7 _ I7 q7) (fun b s8 hb => hb) fun _ _ z => z.elim)) (fun b s8 hb => ?_) fun _ _ z => z)
      obtain ⟨H8, I8, q8⟩ := hb
      cases b with
      | false =>
        obtain ⟨m', hm, w8⟩ := q8
        refine wpAny_pure ⟨rfl, m', hm, i + 1, ys, H8, ?_, ?_, ?_, w8⟩
        · exact I8.unpinned.weak (by rw [kp.1]) kp.2
        · exact T.keep _ _ _ st6 fun b hb o e => (I8.pin (b, o) (List.mem_append_right _ (List.mem_append_right _ (mem_pinsAt hb e)))).1
        · intro b hb
          obtain ⟨o, e, d⟩ := T.obj _ _ st6 b hb
          exact (I8.pin (b, o) (List.mem_append_right _ (List.mem_append_right _ (mem_pinsAt hb e)))).2.1
      | true =>
      refine wpAny_bind (wpAny_bind (wpAny_mono (he s3.heap.objs.size fp s3 H3 _ s8 σ7 H8 _ I8 q8) (fun v8 s8 ⟨y8, H8, I8, r8, hD, m', hm, w8⟩ => ?_) fun _ _ z => z.elim))
      have ap := mt_append (X := blk X N' scope cl s3.heap.objs.size fp s3 H3) _ s8 σ7 H8 (.ref s2.heap.objs.size) [y8] (.ref s2.heap.objs.size) [v8] (fun _ H9 => W (i + 1) m' (ys ++ [y8]) H9) I8 rfl (.cons r8 .nil) ⟨_, ys, y8, rfl, rfl, hD, hz, w8⟩
      refine wpAny_bind (wpAny_mono ap (fun _ s9 ⟨_, H9, I9, _, w9⟩ => wpAny_pure (wpAny_pure ⟨rfl, m', hm, i + 1, ys ++ [y8], H9, ?_, ?_, ?_, w9⟩)) fun _ _ z => z.elim)
      · exact I9.unpinned.weak (by rw [kp.1]) kp.2
      · exact T.keep _ _ _ st6 fun b hb o e => (I9.pin (b, o) (List.mem_append_right _ (List.mem_append_right _ (mem_pinsAt hb e)))).1
      · intro b hb
        obtain ⟨o, e, d⟩ := T.obj _ _ st6 b hb
        exact (I9.pin (b, o) (List.mem_append_right _ (List.mem_append_right _ (mem_pinsAt hb e)))).2.1
  subst hs3
  exact codeAny_compStart_list loop (T.self X.A 0 _ _ _ stB loop)
end
end L2

set_option linter.all false
set_option maxRecDepth 100000
set_option maxHeartbeats 4000000
namespace L2
open PySem PySem.Spec PyProof.Rows
/-! ### a dict while it is walked -/
section
variable {X : Cx} {pins : List (Addr × Obj)} {σ : St} {H : Hp} {s : Shared} {d : Addr} {kvs : List (Key × V)} {o : Obj}
theorem upd_own {H : Hp} {d : Addr} {u v : HO} (e : H d = some u) (nu : ∀ x, u ≠ .own x) {b x : Addr} (h : H b = some (.own x)) : upd H d v b = some (.own x) := by
  rw [upd_ne]
  · exact h
  · rintro rfl
    rw [e] at h
    exact nu x (Option.some.inj h)
theorem upd_tup {H : Hp} {d : Addr} {u v : HO} (e : H d = some u) (nu : ∀ xs, u ≠ .tup xs) {b : Addr} {xs : List V} (h : H b = some (.tup xs)) : upd H d v b = some (.tup xs) := by
  rw [upd_ne]
  · exact h
  · rintro rfl
    rw [e] at h
    exact nu xs (Option.some.inj h)
theorem Inv.freeze (I : Inv X pins σ H s) (e : H d = some (.dK kvs)) (ho : s.heap.get? d = some o) : Inv X pins σ (upd H d (.frz o (.dK kvs))) s :=
  I.write (x := d) (e := d) (h' := s.heap) (t' := s.toks) (o := .frz o (.dK kvs)) (by rw [e]; trivial) (.inl rfl) (fun _ _ _ z => z) ⟨o, ho⟩ ⟨ho, (I.hok d _ e).stay (fun _ _ _ q => q) (fun b q => upd_own e (fun _ z => nomatch z) q) fun b xs q => upd_tup e (fun _ z => nomatch z) q⟩
theorem Inv.thaw (I : Inv X pins σ H s) (e : H d = some (.frz o (.dK kvs))) (h0 : ∀ o' u', X.H₀ d ≠ some (.frz o' u')) : Inv X pins σ (upd H d (.dK kvs)) s := by
  have nd : ∀ {b : Addr}, H b = none → b ≠ d := fun {b} n z => by rw [z, e] at n; cases n
  refine ⟨I.ok, I.os, I.bare, ⟨I.base.keep, I.base.slot, fun b ob q n hx => ?_, I.base.there, fun b xs q => upd_tup e (fun _ z => nomatch z) (I.base.tups b xs q), fun b o' u q => ?_, fun b ps q => ?_⟩, I.loc, I.cell, ?_, fun x c q => ?_, fun p hp => ?_, fun a u q => ?_, I.len⟩
  · have z := I.base.free b ob q n hx
    rw [upd_ne (nd z)]; exact z
  · have z := I.base.frzs b o' u q
    rw [upd_ne]
    · exact z
    · rintro rfl
      exact h0 _ _ q
  · obtain ⟨more, z⟩ := I.base.tbls b ps q
    refine ⟨more, ?_⟩
    rw [upd_ne]
    · exact z
    · rintro rfl
      rw [e] at z; cases z
  · rw [upd_ne (nd I.free)]; exact I.free
  · have z := I.freeC x c q
    rw [upd_ne (nd z)]; exact z
  · obtain ⟨z1, z2, z3⟩ := I.pin p hp
    exact ⟨z1, by rw [upd_ne (nd z2)]; exact z2, z3⟩
  · by_cases h : a = d
    · subst h
      rw [upd_same] at q
      cases q
      obtain ⟨_, z⟩ := (show ObjOk X.prog X.w H s.heap a (.frz o (.dK kvs)) from I.hok a _ e)
      exact ObjOk.stay z (fun _ _ _ q => q) (fun b q => upd_own e (fun _ z => nomatch z) q) fun b xs q => upd_tup e (fun _ z => nomatch z) q
    · rw [upd_ne h] at q
      exact (I.hok a u q).stay (fun _ _ _ q => q) (fun b q => upd_own e (fun _ z => nomatch z) q) fun b xs q => upd_tup e (fun _ z => nomatch z) q
theorem Inv.unfrozen (I : Inv X pins σ H s) (e : H d = some (.dK kvs)) : ∀ o' u', X.H₀ d ≠ some (.frz o' u') := fun o' u' z => by
  have := I.base.frzs _ _ _ z
  rw [e] at this; cases this
/-- behind an expression that walked the dict it is as it was -/
def tThaw (t : TE) : TE := fun σ H Q => ∃ d kvs, H d = some (.dK kvs) ∧ t σ H fun v H' => ∃ o, H' d = some (.frz o (.dK kvs)) ∧ Q v (upd H' d (.dK kvs))
theorem pe_thaw {e : Expr} {t : TE} (he : PE X e t) : PE X e (tThaw t) := by
  intro pins s σ H Q I h
  obtain ⟨d, kvs, hd, h⟩ := h
  exact thn (he pins s σ H _ I h) fun v s1 ⟨x, H1, I1, r, o, e1, q⟩ => ⟨x, _, I1.thaw e1 (I.unfrozen hd), r, q⟩
def sThaw (t : TS) : TS := fun D σ H => ∃ d kvs, H d = some (.dK kvs) ∧ t { nx := fun σ' H' => ∃ o, H' d = some (.frz o (.dK kvs)) ∧ D.nx σ' (upd H' d (.dK kvs)), rt := fun v H' => ∃ o, H' d = some (.frz o (.dK kvs)) ∧ D.rt v (upd H' d (.dK kvs)) } σ H
theorem ps_thaw {st : Stmt} {t : TS} (hs : PS X st t) : PS X st (sThaw t) := by
  intro pins s σ H D I h
  obtain ⟨d, kvs, hd, h⟩ := h
  refine thn (hs pins s σ H _ I h) fun f s1 q => ?_
  cases f with
  | next =>
    obtain ⟨σ1, H1, I1, o, e1, q⟩ := q
    exact ⟨σ1, _, I1.thaw e1 (I.unfrozen hd), q⟩
  | brk => obtain ⟨_, _, _, q⟩ := q; exact q.elim
  | cont => obtain ⟨_, _, _, q⟩ := q; exact q.elim
  | ret u =>
    obtain ⟨v, σ1, H1, I1, r, o, e1, q⟩ := q
    exact ⟨v, σ1, _, I1.thaw e1 (I.unfrozen hd), r, q⟩
end
/-! ### its keys, its values -/
def ItF (d : Addr) (o : Obj) (kvs : List (Key × V)) (xs : List V) : It := ⟨fun i H => i < xs.length ∧ H d = some (.frz o (.dK kvs)), fun i H x H' => H' = H ∧ xs[i]? = some x, fun i H => xs.length ≤ i ∧ H d = some (.frz o (.dK kvs))⟩
theorem rel_key {k : Key} {u : Value} (h : keyIs k u = true) : RelV (kV k) u := by
  rcases keyIs_shape h with ⟨i, t, rfl, rfl⟩ | ⟨x, t, rfl, rfl⟩
  · exact ⟨t, rfl⟩
  · exact ⟨t, rfl⟩
theorem KV.at {kvs : List (Key × V)} {vs : List (Key × Value)} (r : KV kvs vs) {i : Nat} {p : Key × V} (h : kvs[i]? = some p) : ∃ v, vs[i]? = some (p.1, v) ∧ RelV p.2 v := by
  induction r generalizing i with
  | nil => simp at h
  | cons a t ih =>
    cases i with
    | zero =>
      cases h
      rename_i b _ _
      exact ⟨b.2, by rw [a.1]; rfl, a.2⟩
    | succ i => exact ih (by simpa using h)
section
variable {P : Program} {w : World} {K : PySem.W.Frag} {tg : Expr} {d j : Addr} {o : Obj} {kvs : List (Key × V)} {vs : List (Key × Value)} {ep : Nat} {h0 : Heap}
theorem turn_keysF (hD : h0.DictAt (mixKind P w) d vs ep) (ho : h0.get? d = some o) (rel : KV kvs vs) : Turn P w K tg (ItF d o kvs (kvs.map fun p => kV p.1)) [j] j (fun i h => h.IsKeyIter j d i vs.length ep) where
  mem := by simp
  obj := fun i h ⟨u, e, _, dd⟩ b hb => by
    simp only [List.mem_cons, List.not_mem_nil, or_false] at hb
    subst hb
    exact ⟨u, e, fun v z => by rw [dd] at z; cases z⟩
  keep := fun i h h' st k => st.at fun o e => k j (by simp) o e
  item := by
    intro X hP hw hK hc i pins s σ H E I hf st hg
    subst hP hw hK
    obtain ⟨hi, hz⟩ := hg
    obtain ⟨hs, _⟩ := (show ObjOk X.prog X.w H s.heap d (.frz o (.dK kvs)) from I.hok d _ hz)
    have hD' : s.heap.DictAt (mixKind X.prog X.w) d vs ep := hD.at' fun o' e' => by rw [ho] at e'; cases e'; exact hs
    have hi' : i < kvs.length := by simpa using hi
    obtain ⟨v, hv, _⟩ := rel.at (List.getElem?_eq_getElem hi')
    obtain ⟨f0, f1, f2, f3, f4, f5⟩ := hf j (by simp)
    refine wpAny_pyNext_dict_item st hD' hv fun key h' hk st' sb => ?_
    have I1 : Inv X pins σ H { s with heap := h' } := I.turned (t' := s.toks) (fun b o hb e => (sb.2 b hb).trans e) f0 f1 f3 f4 f5
    obtain ⟨o2, e2, c2, dd2⟩ := id st'
    exact ⟨_, rfl, go_of (s := { s with heap := h' }) e2 c2 dd2 (by decide) ⟨kV (kvs[i]).1, H, I1, rel_key hk, ⟨rfl, by simp [hi']⟩, st', fun b hb => (hf b hb).1⟩⟩
  done := by
    intro X hP hw hK hc i pins s σ H E I hf st hg
    subst hP hw hK
    obtain ⟨hi, hz⟩ := hg
    obtain ⟨hs, _⟩ := (show ObjOk X.prog X.w H s.heap d (.frz o (.dK kvs)) from I.hok d _ hz)
    have hD' : s.heap.DictAt (mixKind X.prog X.w) d vs ep := hD.at' fun o' e' => by rw [ho] at e'; cases e'; exact hs
    have hl : kvs.length = vs.length := Paired.length rel
    obtain ⟨f0, f1, f2, f3, f4, f5⟩ := hf j (by simp)
    exact wpAny_pyNext_dict_end (I.ok.hd hc) st hD' (List.getElem?_eq_none (by rw [← hl]; simpa using hi)) fun h' eb => ⟨rfl, I.turned (t' := s.toks) (fun b o hb e => eb b o hb e) f0 f1 f3 f4 f5⟩
  self := fun _ _ _ _ _ st h => wpAny_pyIter_keyiter st h
theorem turn_valsF (hD : h0.DictAt (mixKind P w) d vs ep) (ho : h0.get? d = some o) (rel : KV kvs vs) : Turn P w K tg (ItF d o kvs (kvs.map fun p => p.2)) [j] j (fun i h => h.IsValIter j d i vs.length ep) where
  mem := by simp
  obj := fun i h ⟨u, e, _, dd⟩ b hb => by
    simp only [List.mem_cons, List.not_mem_nil, or_false] at hb
    subst hb
    exact ⟨u, e, fun v z => by rw [dd] at z; cases z⟩
  keep := fun i h h' st k => st.at fun o e => k j (by simp) o e
  item := by
    intro X hP hw hK hc i pins s σ H E I hf st hg
    subst hP hw hK
    obtain ⟨hi, hz⟩ := hg
    obtain ⟨hs, _⟩ := (show ObjOk X.prog X.w H s.heap d (.frz o (.dK kvs)) from I.hok d _ hz)
    have hD' : s.heap.DictAt (mixKind X.prog X.w) d vs ep := hD.at' fun o' e' => by rw [ho] at e'; cases e'; exact hs
    have hi' : i < kvs.length := by simpa using hi
    obtain ⟨v, hv, rv⟩ := rel.at (List.getElem?_eq_getElem hi')
    obtain ⟨f0, f1, f2, f3, f4, f5⟩ := hf j (by simp)
    refine wpAny_pyNext_values_item st hD' hv fun h' st' sb => ?_
    have I1 : Inv X pins σ H { s with heap := h' } := I.turned (t' := s.toks) (fun b o hb e => (sb.2 b hb).trans e) f0 f1 f3 f4 f5
    obtain ⟨o2, e2, c2, dd2⟩ := id st'
    exact ⟨_, rfl, go_of (s := { s with heap := h' }) e2 c2 dd2 (by decide) ⟨(kvs[i]).2, H, I1, rv, ⟨rfl, by simp [hi']⟩, st', fun b hb => (hf b hb).1⟩⟩
  done := by
    intro X hP hw hK hc i pins s σ H E I hf st hg
    subst hP hw hK
    obtain ⟨hi, hz⟩ := hg
    obtain ⟨hs, _⟩ := (show ObjOk X.prog X.w H s.heap d (.frz o (.dK kvs)) from I.hok d _ hz)
    have hD' : s.heap.DictAt (mixKind X.prog X.w) d vs ep := hD.at' fun o' e' => by rw [ho] at e'; cases e'; exact hs
    have hl : kvs.length = vs.length := Paired.length rel
    obtain ⟨f0, f1, f2, f3, f4, f5⟩ := hf j (by simp)
    exact wpAny_pyNext_values_end (I.ok.hd hc) st hD' (List.getElem?_eq_none (by rw [← hl]; simpa using hi)) fun h' eb => ⟨rfl, I.turned (t' := s.toks) (fun b o hb e => eb b o hb e) f0 f1 f3 f4 f5⟩
  self := fun _ _ _ _ _ st h => wpAny_pyIter_valiter st h
end
section
variable {X : Cx} {tg : Expr}
def iKeysF (tl : TE) : TI := fun σ H R => tl σ H fun x H1 => ∃ d kvs, x = .ref d ∧ H1 d = some (.dK kvs) ∧ ∀ o, R (ItF d o kvs (kvs.map fun p => kV p.1)) (upd H1 d (.frz o (.dK kvs)))
def iValsF (tl : TE) : TI := fun σ H R => tl σ H fun x H1 => ∃ d kvs, x = .ref d ∧ H1 d = some (.dK kvs) ∧ ∀ o, R (ItF d o kvs (kvs.map fun p => p.2)) (upd H1 d (.frz o (.dK kvs)))
theorem pi_keysF {l : Expr} {tl : TE} (hl : PE X l tl) : PI X tg l (iKeysF tl) := by
  intro pins s σ H R I h
  refine thn (hl pins s σ H _ I h) fun v s1 ⟨x, H1, I1, r1, q1⟩ => ?_
  obtain ⟨d, kvs, rfl, hd, q⟩ := q1
  cases r1
  obtain ⟨z, hsys, vs, rel, dd⟩ := dk_of I1.hok hd
  obtain ⟨ep, da⟩ := dd.dictAt
  obtain ⟨o, es, ho, r⟩ := id da
  refine wpAny_pyIter_dict hsys da ?_
  have I2 := (I1.freeze hd ho).kept (h' := s1.heap.push { cls := .type "dict_keyiterator", data := .fields #[.ref d, .int 0 0, .int vs.length 0, .int ep 0] }) (t' := s1.toks) fun b o e => Heap.get?_push_of_some _ e
  refine ⟨s1.heap.objs.size, [s1.heap.objs.size], _, _, _, rfl, I2, turn_keysF da ho rel, ⟨_, Heap.get?_push_size _ rfl, rfl, rfl⟩, fun b hb => ?_, q o⟩
  have e : b = s1.heap.objs.size := by simpa using hb
  subst e
  exact (I1.freeze hd ho).fpOk (Nat.le_refl _) ((I1.freeze hd ho).hok.fresh (Nat.le_refl _))
theorem pi_valsF {l : Expr} {tl : TE} {apos cpos : Pos} (hl : PE X l tl) (hbase : attributeBase l "values" X.env (eval l X.env) = eval l X.env := by rfl) (hline : (apos.endLine == cpos.line) = true := by rfl) : PI X tg (.Call (.Attribute l "values" apos) [] [] cpos) (iValsF tl) := by
  intro pins s σ H R I h
  refine wpAny_Call_method0_late hbase hline (thn (hl pins s σ H _ I h) fun v s1 ⟨x, H1, I1, r1, q1⟩ => ?_)
  obtain ⟨d, kvs, rfl, hd, q⟩ := q1
  cases r1
  obtain ⟨z, hsys, vs, rel, dd⟩ := dk_of I1.hok hd
  obtain ⟨t1, t2, _⟩ := isD_at I1 (.inl ⟨kvs, .inl hd⟩)
  refine ⟨"dict", "dict.values", PySem.F.plainAttrs_dict, PySem.F.slot_dict_values, PySem.F.type_dict_values, t1, t2, Calls.callWith_builtin rfl (PySem.evalArgs_none ?_)⟩
  refine call_meetsIn PySem.F.slot_dict_values t1 PySem.F.entry_dict_values (PySem.F.args_dict_values_1 _) (meets_dict_values (mixKind X.prog X.w) d hsys) ⟨⟨vs, dd⟩, ?_⟩
  have I2 := I1.kept (h' := s1.heap.push { cls := .type "dict_values", data := .fields #[.ref d] }) (t' := s1.toks) fun b o e => Heap.get?_push_of_some _ e
  obtain ⟨ep, da⟩ := dd.dictAt
  obtain ⟨o, es, ho, r⟩ := id (da.push { cls := .type "dict_values", data := .fields #[.ref d] })
  refine wpAny_pyIter_values (s := { s1 with heap := s1.heap.push { cls := .type "dict_values", data := .fields #[.ref d] } }) ⟨_, Heap.get?_push_size _ rfl, rfl, rfl⟩ (da.push _) ?_
  have I3 := (I2.freeze hd ho).kept (h' := (s1.heap.push { cls := .type "dict_values", data := .fields #[.ref d] }).push { cls := .type "dict_valueiterator", data := .fields #[.ref d, .int 0 0, .int vs.length 0, .int ep 0] }) (t' := s1.toks) fun b o e => Heap.get?_push_of_some _ e
  refine ⟨(s1.heap.push { cls := .type "dict_values", data := .fields #[.ref d] }).objs.size, [(s1.heap.push { cls := .type "dict_values", data := .fields #[.ref d] }).objs.size], _, _, _, rfl, I3, turn_valsF (da.push _) ho rel, ⟨_, Heap.get?_push_size _ rfl, rfl, rfl⟩, fun b hb => ?_, q o⟩
  have e : b = (s1.heap.push { cls := .type "dict_values", data := .fields #[.ref d] }).objs.size := by simpa using hb
  subst e
  exact (I2.freeze hd ho).fpOk (Nat.le_refl _) ((I2.freeze hd ho).hok.fresh (Nat.le_refl _))
/-- dict(d) -/
theorem call_dictD : CallR X (.type "dict") (fun xs H Q => ∃ a kvs, xs = [.ref a] ∧ H a = some (.dK kvs) ∧ ∀ p, H p = none → Q (.ref p) (upd H p (.dK kvs))) := by
  intro pins s σ H xs us Q I r h
  obtain ⟨a, kvs, rfl, ha, q⟩ := h
  obtain ⟨u, rfl, ru⟩ := vals1 r
  cases (show u = Value.ref a from ru)
  exact d_copyOf I (.inl ha) fun p s' hp I' => ⟨.ref p, _, I', rfl, q p hp⟩
/-- d != e, the same pairs, numbers all -/
theorem hits_self {A : Around} {s : Shared} {kb : List (Key × Value)} (nd : (kb.map (·.1)).Nodup) {ka : List (Key × Value)} (h : ∀ p ∈ ka, ∃ q ∈ kb, q.1 = p.1 ∧ ∃ n t t', p.2 = .int n t ∧ q.2 = .int n t') : PySem.W.KeqHits A s kb ka true := by
  induction ka with
  | nil => exact .nil
  | cons p r ih =>
    obtain ⟨q, hq, e1, n, t, t', e2, e3⟩ := h p (by simp)
    have hv : valueAt kb p.1 = some q.2 := by
      rw [← e1]
      clear ih h e1 e2 e3
      induction kb with
      | nil => simp at hq
      | cons a kb ih =>
        have nd' : a.1 ∉ kb.map (·.1) ∧ (kb.map (·.1)).Nodup := List.nodup_cons.mp nd
        unfold valueAt
        rcases List.mem_cons.mp hq with rfl | hq
        · simp
        · have ne : a.1 ≠ q.1 := fun z => nd'.1 (z ▸ List.mem_map_of_mem hq)
          have := ih nd'.2 hq
          unfold valueAt at this
          simp [List.find?_cons, ne, this]
    obtain ⟨k, v⟩ := p
    have e2' : v = .int n t := e2
    subst e2'
    have hh : SeqAt.EqAt A s (.int n t) q.2 true := by
      rw [e3]
      have := SeqAt.EqAt.int_int (A := A) (s := s) n t n t'
      simpa using this
    have := PySem.W.KeqHits.hit (A := A) (s := s) (k := k) (v := .int n t) hv hh (ih fun p hp => h p (by simp [hp]))
    simpa using this
theorem KV.mem {kvs : List (Key × V)} {vs : List (Key × Value)} (r : KV kvs vs) : ∀ q ∈ vs, ∃ p ∈ kvs, p.1 = q.1 ∧ RelV p.2 q.2 := by
  induction r with
  | nil => intro q h; simp at h
  | cons a t ih =>
    intro q h
    rcases List.mem_cons.mp h with rfl | h
    · exact ⟨_, by simp, a⟩
    · obtain ⟨p, hp, z⟩ := ih q h
      exact ⟨p, by simp [hp], z⟩
theorem KV.mem' {kvs : List (Key × V)} {vs : List (Key × Value)} (r : KV kvs vs) : ∀ p ∈ kvs, ∃ q ∈ vs, p.1 = q.1 ∧ RelV p.2 q.2 := by
  induction r with
  | nil => intro q h; simp at h
  | cons a t ih =>
    intro q h
    rcases List.mem_cons.mp h with rfl | h
    · exact ⟨_, by simp, a⟩
    · obtain ⟨p, hp, z⟩ := ih q h
      exact ⟨p, by simp [hp], z⟩
theorem op_neD (hu : X.A.units < cLine) : OpR X (compareOp .NotEq) (fun x y H Q => ∃ a b kvs, x = .ref a ∧ y = .ref b ∧ H a = some (.dK kvs) ∧ H b = some (.dK kvs) ∧ (∀ p ∈ kvs, ∃ n, p.2 = .int n) ∧ Q (.bl false) H) := by
  intro pins s σ H x y v u Q I rx ry h
  obtain ⟨a, b, kvs, rfl, rfl, ha, hb, hn, q⟩ := h
  cases rx
  cases ry
  obtain ⟨_, sa, vs, ra, da⟩ := dk_of I.hok ha
  obtain ⟨_, sb, us, rb, db⟩ := dk_of I.hok hb
  have l1 : kvs.length = vs.length := Paired.length ra
  have l2 : kvs.length = us.length := Paired.length rb
  obtain ⟨ep, db'⟩ := db.dictAt
  refine PySem.W.keq_ne (r := true) sa sb da db hu (fun _ => hits_self db'.nodup fun p hp => ?_) ?_
  · obtain ⟨k, hk, e1, r1⟩ := ra.mem p hp
    obtain ⟨q', hq', e2, r2⟩ := rb.mem' k hk
    obtain ⟨n, en⟩ := hn k hk
    rw [en] at r1 r2
    obtain ⟨t, et⟩ := (show ∃ t, p.2 = Value.int n t from r1)
    obtain ⟨t', et'⟩ := (show ∃ t, q'.2 = Value.int n t from r2)
    exact ⟨q', hq', by rw [← e2, e1], n, t, t', et, et'⟩
  · rw [← l1, ← l2]
    simp only [beq_self_eq_true, Bool.and_true, Bool.not_true]
    exact ⟨.bl false, H, I, rfl, q⟩
end
end L2

set_option linter.all false
set_option maxRecDepth 100000
set_option maxHeartbeats 4000000
namespace L2
open PySem PySem.Spec PyProof.Rows
section
variable {X : Cx}
theorem mt_find : MtR X "str.find" (fun x xs H Q => ∃ a b, x = .str a ∧ xs = [.str b] ∧ Q (.int (Txt.find a b)) H) := by
  intro pins s σ H x xs v us Q I rx rs h
  obtain ⟨a, b, rfl, rfl, q⟩ := h
  obtain ⟨t, rfl⟩ := rx
  obtain ⟨u, rfl, t', rfl⟩ := vals1 rs
  exact call_gives PySem.F.slot_str_find (typeIs_str _ _ _) PySem.F.entry_str_find (PySem.F.args_str_find_2 _ _) (gives_str_find a b t t') ⟨V.int _, H, I.tok _, ⟨_, rfl⟩, q⟩
end
/-! ### names to numbers -/
def kvR (rs : List (Str × Int)) : List (Key × V) := rs.map fun p => (Sum.inr p.1, V.int p.2)
def getR (rs : List (Str × Int)) (n : Str) : Int := match rs.find? (fun p => decide (p.1 = n)) with
  | some p => p.2
  | none => 0
def putR (rs : List (Str × Int)) (n : Str) (k : Int) : List (Str × Int) := if (rs.any fun p => decide (p.1 = n)) = true then rs.map (fun p => if p.1 = n then (p.1, k) else p) else rs ++ [(n, k)]
def cntR (rs : List (Str × Int)) : Nat := (rs.filter fun p => !decide (p.2 = 0)).length
theorem valV_kvR (n : Str) : ∀ (rs : List (Str × Int)), valV (kvR rs) (Sum.inr n) = (rs.find? (fun p => decide (p.1 = n))).map fun p => V.int p.2
  | [] => rfl
  | p :: r => by
    have ih := valV_kvR n r
    unfold valV kvR at ih ⊢
    rw [List.map_cons, List.find?_cons, List.find?_cons]
    by_cases e : p.1 = n
    · simp [e]
    · have e' : ¬ (Sum.inr p.1 : Key) = Sum.inr n := fun z => e (by injection z)
      simp only [decide_eq_false e', decide_eq_false e]
      exact ih
theorem get_kvR (n : Str) (rs : List (Str × Int)) : (valV (kvR rs) (Sum.inr n)).getD (.int 0) = .int (getR rs n) := by
  rw [valV_kvR]
  unfold getR
  cases rs.find? (fun p => decide (p.1 = n)) <;> rfl
theorem any_kvR (n : Str) (rs : List (Str × Int)) : ((kvR rs).any fun kv => decide (kv.1 = Sum.inr n)) = rs.any fun p => decide (p.1 = n) := by
  unfold kvR
  rw [List.any_map]
  congr 1
  funext p
  simp
theorem put_kvR (n : Str) (k : Int) (rs : List (Str × Int)) : putK (kvR rs) (Sum.inr n) (.int k) = kvR (putR rs n k) := by
  unfold putK putR
  rw [any_kvR]
  by_cases e : (rs.any fun p => decide (p.1 = n)) = true
  · rw [if_pos e, if_pos e]
    unfold kvR
    rw [List.map_map, List.map_map]
    apply List.map_congr_left
    intro p _
    by_cases h : p.1 = n <;> simp [h]
  · rw [if_neg e, if_neg e]
    unfold kvR
    rw [List.map_append]
    rfl
theorem putR_len (n : Str) (k : Int) (rs : List (Str × Int)) : (putR rs n k).length ≤ rs.length + 1 := by
  unfold putR
  split <;> simp
theorem putR_nd (n : Str) (k : Int) {rs : List (Str × Int)} (h : (rs.map (·.1)).Nodup) : ((putR rs n k).map (·.1)).Nodup := by
  unfold putR
  split
  · rw [List.map_map]
    have : (fun p : Str × Int => p.1) ∘ (fun p => if p.1 = n then (p.1, k) else p) = fun p => p.1 := by
      funext p
      simp only [Function.comp]
      split <;> rfl
    rw [this]
    exact h
  · rename_i e
    rw [List.map_append]
    refine nd_snoc h fun m => e ?_
    obtain ⟨p, hp, z⟩ := List.mem_map.mp m
    exact List.any_eq_true.mpr ⟨p, hp, decide_eq_true z⟩
theorem find_nd {rs : List (Str × Int)} (h : (rs.map (·.1)).Nodup) : ∀ {i : Nat} {p : Str × Int}, rs[i]? = some p → valV (kvR rs) (Sum.inr p.1) = some (.int p.2) := by
  induction rs with
  | nil => intro i p e; simp at e
  | cons a r ih =>
    intro i p e
    obtain ⟨h1, h2⟩ := List.nodup_cons.mp h
    cases i with
    | zero => cases e; exact valV_pos (p := ((Sum.inr a.1 : Key), V.int a.2)) rfl
    | succ i =>
      have e' : r[i]? = some p := by simpa using e
      have ne : ¬ (Sum.inr a.1 : Key) = Sum.inr p.1 := fun z => h1 (by
        injection z with z
        have := List.mem_map_of_mem (f := fun x : Str × Int => x.1) (List.mem_of_getElem? e')
        rwa [← z] at this)
      have := valV_neg (p := ((Sum.inr a.1 : Key), V.int a.2)) (r := kvR r) ne
      exact this.trans (ih h2 e')
theorem cntR_snoc (rs : List (Str × Int)) {i : Nat} {p : Str × Int} (h : rs[i]? = some p) : cntR (rs.take (i + 1)) = cntR (rs.take i) + (if p.2 = 0 then 0 else 1) := by
  unfold cntR
  rw [List.take_succ, h, List.filter_append, List.length_append]
  by_cases e : p.2 = 0 <;> simp [e]
theorem upd_self {H : Hp} {d : Addr} {u : HO} (h : H d = some u) : upd H d u = H := by
  funext b
  unfold upd
  split
  · rename_i e; rw [e, h]
  · rfl
section
variable {σ : St} {H : Hp} {td ty tx tv te : TE} {d : Addr} {rs : List (Str × Int)} {K : PySem.W.Frag}
/-- d.get(name, 0) -/
theorem pu_getR {n : Str} (hd : Pu td σ H (.ref d)) (hr : H d = some (.dK (kvR rs))) (hy : Pu ty σ H (.str n)) (hx : Pu tx σ H (.int 0)) : Pu (tDGet2 td ty tx) σ H (.int (getR rs n)) := fun Q q =>
  hd _ ⟨d, rfl, .inl ⟨_, .inl hr⟩, hy _ (hx _ ⟨_, .inl ⟨_, Sum.inr n, .inl hr, rfl, rfl⟩, by rw [get_kvR]; exact q⟩)⟩
/-- d[name], d walked -/
theorem pu_atR {n : Str} {o : Obj} {v : V} (hd : Pu td σ H (.ref d)) (hr : H d = some (.frz o (.dK (kvR rs)))) (hy : Pu ty σ H (.str n)) (hv : valV (kvR rs) (Sum.inr n) = some v) : Pu (tDGet td ty) σ H v := fun Q q =>
  hd _ (hy _ ⟨d, v, rfl, .inl ⟨_, Sum.inr n, .inr ⟨o, hr⟩, rfl, hv.symm⟩, q⟩)
/-- {} -/
theorem gv_newD : Gv tDNewK σ H (fun v H' => ∃ p, H p = none ∧ v = .ref p ∧ H' = upd H p (.dK [])) := fun Q q p hp => q _ _ ⟨p, hp, rfl, rfl⟩
/-- d[name] = number -/
theorem st_putR {rest : TS} {D : Ends} {RV : V → Hp → Prop} {RY : V → Hp → V → Hp → Prop} (hv : Gv tv σ H RV) (hy : ∀ v H1, RV v H1 → Pu td σ H1 (.ref d) ∧ Gv ty σ H1 (RY v H1))
    (k : ∀ v H1 y H2, RV v H1 → RY v H1 y H2 → ∃ rs n m, v = .int m ∧ y = .str n ∧ H2 d = some (.dK (kvR rs)) ∧ rs.length ≤ 1000 ∧ rest D σ (upd H2 d (.dK (kvR (putR rs n m))))) : tSeq (sDPut td ty tv) rest D σ H :=
  hv _ fun v H1 r1 => (hy v H1 r1).1 _ ((hy v H1 r1).2 _ fun y H2 r2 => by
    obtain ⟨rs, n, m, rfl, rfl, h, hz, q⟩ := k v H1 y H2 r1 r2
    refine ⟨d, _, rfl, .inl ⟨_, Sum.inr n, h, rfl, ?_, rfl⟩, ?_⟩
    · unfold kvR; rw [List.length_map]; exact small1000 hz
    · show rest D σ _
      rw [put_kvR]
      exact q)
theorem st_putR1 {D : Ends} {RV : V → Hp → Prop} {RY : V → Hp → V → Hp → Prop} (hv : Gv tv σ H RV) (hy : ∀ v H1, RV v H1 → Pu td σ H1 (.ref d) ∧ Gv ty σ H1 (RY v H1))
    (k : ∀ v H1 y H2, RV v H1 → RY v H1 y H2 → ∃ rs n m, v = .int m ∧ y = .str n ∧ H2 d = some (.dK (kvR rs)) ∧ rs.length ≤ 1000 ∧ D.nx σ (upd H2 d (.dK (kvR (putR rs n m))))) : sDPut td ty tv D σ H :=
  hv _ fun v H1 r1 => (hy v H1 r1).1 _ ((hy v H1 r1).2 _ fun y H2 r2 => by
    obtain ⟨rs, n, m, rfl, rfl, h, hz, q⟩ := k v H1 y H2 r1 r2
    refine ⟨d, _, rfl, .inl ⟨_, Sum.inr n, h, rfl, ?_, rfl⟩, ?_⟩
    · unfold kvR; rw [List.length_map]; exact small1000 hz
    · show D.nx σ _
      rw [put_kvR]
      exact q)
/-- for name in d -/
theorem st_keysR {rest tb : TS} {D : Ends} {k : Nat} (hd : Pu te σ H (.ref d)) (hr : H d = some (.dK (kvR rs))) (Pv : Obj → Nat → St → Hp → Prop) (h0 : ∀ o, Pv o 0 σ (upd H d (.frz o (.dK (kvR rs))))) (hl : ∀ o n σ H, Pv o n σ H → H d = some (.frz o (.dK (kvR rs))))
    (hs : ∀ o (n : Nat) p σ H (D' : Ends), D'.nx = Pv o (n + 1) → rs[n]? = some p → Pv o n σ H → tb D' (σ.set k (some (.str p.1))) H) (hq : ∀ o σ H, Pv o rs.length σ H → rest D σ (upd H d (.dK (kvR rs)))) : tSeq (sThaw (tFor (iKeysF te) (gName k) tb)) rest D σ H := by
  have len : (kvR rs).length = rs.length := by unfold kvR; rw [List.length_map]
  refine ⟨d, kvR rs, hr, hd _ ⟨d, kvR rs, rfl, hr, fun o => ⟨fun i m σ H => m = rs.length - i ∧ i ≤ rs.length ∧ Pv o i σ H, ⟨_, rfl, Nat.zero_le _, h0 o⟩, ?_⟩⟩⟩
  rintro i m σ1 H1 ⟨rfl, hi, hp⟩
  by_cases hlt : i < rs.length
  · refine .inr ⟨⟨by rw [List.length_map, len]; exact hlt, hl o i σ1 H1 hp⟩, Pv o (i + 1), fun σ' H' p' => ⟨_, by omega, rfl, hlt, p'⟩, ?_⟩
    rintro x H' ⟨rfl, hx⟩
    have e := List.getElem?_eq_getElem hlt
    have hx' : V.str (rs[i]).1 = x := by
      unfold kvR at hx
      rw [List.map_map, List.getElem?_map, e] at hx
      exact Option.some.inj hx
    subst hx'
    exact hs o i _ σ1 H' _ rfl e hp
  · have e : i = rs.length := by omega
    subst e
    exact .inl ⟨⟨by rw [List.length_map, len]; exact Nat.le_refl _, hl o _ σ1 H1 hp⟩, o, hl o _ σ1 H1 hp, hq o σ1 H1 hp⟩
/-- len of [number for number in d.values() if number != 0] -/
theorem gv_valsR {fr : St → St} {tc : TT} {tl : TE} (hf : fr σ = [none]) (hd : Pu tl σ H (.ref d)) (hr : H d = some (.dK (kvR rs))) (hz : rs.length ≤ 1000)
    (hc : ∀ (n : Int) H', PuT tc [some (.int n)] H' (!decide (n = 0))) (he : ∀ (n : Int) H', Pu te [some (.int n)] H' (.int n)) :
    Gv (tThaw (tCompF (iValsF tl) fr (gName 0) tc te)) σ H (fun v H' => Same H H' ∧ ∃ D xs, v = .ref D ∧ H' D = some (.lst xs) ∧ xs.length = cntR rs) := by
  intro Q q
  have len : (kvR rs).length = rs.length := by unfold kvR; rw [List.length_map]
  refine ⟨d, kvR rs, hr, hd _ ⟨d, kvR rs, rfl, hr, fun o D hD => ?_⟩⟩
  have nD : D ≠ d := fun z => by rw [z, upd_same] at hD; cases hD
  have hD0 : H D = none := by rw [upd_ne nD] at hD; exact hD
  refine ⟨fun i m ys H2 => m = rs.length - i ∧ i ≤ rs.length ∧ ys.length = cntR (rs.take i) ∧ H2 = upd (upd H d (.frz o (.dK (kvR rs)))) D (.lst ys), ⟨_, rfl, Nat.zero_le _, rfl, rfl⟩, ?_⟩
  rintro i m ys H2 ⟨rfl, hi, hy, rfl⟩
  have hfz : (upd (upd H d (.frz o (.dK (kvR rs)))) D (.lst ys)) d = some (.frz o (.dK (kvR rs))) := by rw [upd_ne nD.symm, upd_same]
  by_cases hlt : i < rs.length
  · have yl : ys.length ≤ 1000 := by
      rw [hy]
      refine Nat.le_trans (List.length_filter_le _ _) ?_
      rw [List.length_take]; omega
    refine .inr ⟨⟨by rw [List.length_map, len]; exact hlt, hfz⟩, small1000 yl, ?_⟩
    rintro x H' ⟨rfl, hx⟩
    have e := List.getElem?_eq_getElem hlt
    have hx' : V.int (rs[i]).2 = x := by
      unfold kvR at hx
      rw [List.map_map, List.getElem?_map, e] at hx
      exact Option.some.inj hx
    subst hx'
    have cs := cntR_snoc rs e
    rw [hf]
    refine ⟨KeepS.none1, hc (rs[i]).2 _ _ ?_⟩
    by_cases z : (rs[i]).2 = 0
    · rw [decide_eq_true z]
      rw [if_pos z] at cs
      exact ⟨_, by omega, rfl, hlt, by rw [cs]; exact hy, rfl⟩
    · rw [decide_eq_false z]
      rw [if_neg z] at cs
      refine he (rs[i]).2 _ _ ⟨upd_same, _, by omega, rfl, hlt, by rw [List.length_append, cs, hy]; rfl, ?_⟩
      rw [upd_upd]
  · have e : i = rs.length := by omega
    subst e
    refine .inl ⟨⟨by rw [List.length_map, len]; exact Nat.le_refl _, hfz⟩, o, hfz, q _ _ ⟨fun b u hb => ?_, D, ys, rfl, ?_, by rw [hy, List.take_length]⟩⟩
    · by_cases hbd : b = d
      · subst hbd
        rw [upd_same, ← hb, hr]
      · rw [upd_ne hbd]
        have nb : b ≠ D := fun z => by rw [z, hD0] at hb; cases hb
        rw [upd_ne nb, upd_ne hbd]
        exact hb
    · rw [upd_ne nD, upd_same]
end
end L2

set_option maxHeartbeats 4000000
namespace My
open PySem PySem.Spec PyProof.Rows L2
def top (i : Nat) : Stmt := PySem.Challenge.pw_plymap_k71_what_is_a_wish.main.body.getD i (.Pass ⟨0, 0, 0, 0⟩)
def s_is_name : Stmt := top 6
def s_is_whole : Stmt := top 8
def s_shape_of : Stmt := top 12
def s_is_part : Stmt := top 13
def s_is_wish_within : Stmt := top 14
def s_is_wish : Stmt := top 15
def s_check_wish : Stmt := top 16
def s_is_met : Stmt := top 17
def s_holds : Stmt := top 18
def s_l_hand : Stmt := top 20
def s_l_next : Stmt := top 21
def s_l_take : Stmt := top 22
def s_l_draw : Stmt := top 23
def s_l_name : Stmt := top 24
def s_l_names : Stmt := top 25
def s_l_number : Stmt := top 26
def s_l_wish : Stmt := top 27
def s_l_holds : Stmt := top 28
def s_l_deep : Stmt := top 29
def s_l_wrapped : Stmt := top 30
def s_l_spoilt : Stmt := top 31
def s_l_numbers_in : Stmt := top 32
def s_l_rounds_for : Stmt := top 33
def s_law : Stmt := top 34
structure Adr where
  f_is_name : Addr
  d_is_name : FuncData
  f_is_whole : Addr
  d_is_whole : FuncData
  f_shape_of : Addr
  d_shape_of : FuncData
  f_is_part : Addr
  d_is_part : FuncData
  f_is_wish_within : Addr
  d_is_wish_within : FuncData
  f_is_wish : Addr
  d_is_wish : FuncData
  f_check_wish : Addr
  d_check_wish : FuncData
  f_is_met : Addr
  d_is_met : FuncData
  f_holds : Addr
  d_holds : FuncData
  f_l_hand : Addr
  d_l_hand : FuncData
  f_l_next : Addr
  d_l_next : FuncData
  f_l_take : Addr
  d_l_take : FuncData
  f_l_draw : Addr
  d_l_draw : FuncData
  f_l_name : Addr
  d_l_name : FuncData
  f_l_names : Addr
  d_l_names : FuncData
  f_l_number : Addr
  d_l_number : FuncData
  f_l_wish : Addr
  d_l_wish : FuncData
  f_l_holds : Addr
  d_l_holds : FuncData
  f_l_deep : Addr
  d_l_deep : FuncData
  f_l_wrapped : Addr
  d_l_wrapped : FuncData
  f_l_spoilt : Addr
  d_l_spoilt : FuncData
  f_l_numbers_in : Addr
  d_l_numbers_in : FuncData
  f_l_rounds_for : Addr
  d_l_rounds_for : FuncData
  f_law : Addr
  d_law : FuncData
  c_SHAPES : Addr
structure Txt (K : PySem.W.Frag) (mg : Str → Option Value) (t : Adr) (w : World) : Prop where
  is_name : Fn K mg "is_name" s_is_name t.f_is_name t.d_is_name ["thing"]
  is_whole : Fn K mg "is_whole" s_is_whole t.f_is_whole t.d_is_whole ["thing"]
  shape_of : Fn K mg "shape_of" s_shape_of t.f_shape_of t.d_shape_of ["word"]
  is_part : Fn K mg "is_part" s_is_part t.f_is_part t.d_is_part ["kind", "thing", "depth"]
  is_wish_within : Fn K mg "is_wish_within" s_is_wish_within t.f_is_wish_within t.d_is_wish_within ["thing", "depth"]
  is_wish : Fn K mg "is_wish" s_is_wish t.f_is_wish t.d_is_wish ["thing"]
  check_wish : Fn K mg "check_wish" s_check_wish t.f_check_wish t.d_check_wish ["thing"]
  is_met : Fn K mg "is_met" s_is_met t.f_is_met t.d_is_met ["wish", "rounds"]
  holds : Fn K mg "holds" s_holds t.f_holds t.d_holds ["wish", "rounds"]
  l_hand : Fn K mg "_law_hand" s_l_hand t.f_l_hand t.d_l_hand ["_law_script"]
  l_next : Fn K mg "_law_next" s_l_next t.f_l_next t.d_l_next ["_law_hand_here"]
  l_take : Fn K mg "_law_take" s_l_take t.f_l_take t.d_l_take ["_law_hand_here"]
  l_draw : Fn K mg "_law_draw" s_l_draw t.f_l_draw t.d_l_draw ["_law_hand_here", "_law_many"]
  l_name : Fn K mg "_law_name" s_l_name t.f_l_name t.d_l_name ["_law_hand_here", "_law_taken"]
  l_names : Fn K mg "_law_names" s_l_names t.f_l_names t.d_l_names ["_law_hand_here", "_law_many"]
  l_number : Fn K mg "_law_number" s_l_number t.f_l_number t.d_l_number ["_law_hand_here"]
  l_wish : Fn K mg "_law_wish" s_l_wish t.f_l_wish t.d_l_wish ["_law_hand_here", "_law_names_here", "_law_deep_here"]
  l_holds : Fn K mg "_law_holds" s_l_holds t.f_l_holds t.d_l_holds ["_law_wish_here", "_law_rounds"]
  l_deep : Fn K mg "_law_deep" s_l_deep t.f_l_deep t.d_l_deep ["_law_wish_here"]
  l_wrapped : Fn K mg "_law_wrapped" s_l_wrapped t.f_l_wrapped t.d_l_wrapped ["_law_hand_here", "_law_wish_here", "_law_deep_here"]
  l_spoilt : Fn K mg "_law_spoilt" s_l_spoilt t.f_l_spoilt t.d_l_spoilt ["_law_hand_here", "_law_wish_here"]
  l_numbers_in : Fn K mg "_law_numbers_in" s_l_numbers_in t.f_l_numbers_in t.d_l_numbers_in ["_law_wish_here"]
  l_rounds_for : Fn K mg "_law_rounds_for" s_l_rounds_for t.f_l_rounds_for t.d_l_rounds_for ["_law_hand_here", "_law_names_here", "_law_some"]
  law : Fn K mg "law" s_law t.f_law t.d_law ["_law_script"]
  b_abs : mg "abs" = none
  b_all : mg "all" = none
  b_bool : mg "bool" = none
  b_dict : mg "dict" = none
  b_int : mg "int" = none
  b_isinstance : mg "isinstance" = none
  b_len : mg "len" = none
  b_list : mg "list" = none
  b_max : mg "max" = none
  b_range : mg "range" = none
  b_str : mg "str" = none
  b_tuple : mg "tuple" = none
  b_zip : mg "zip" = none
  k_MOST_LETTERS : ∃ tk, mg "MOST_LETTERS" = some (.int 8 tk)
  k_LETTERS : ∃ tk, mg "LETTERS" = some (.str "abcdefghijklmnopqrstuvwxyz" tk)
  k_DEEPEST : ∃ tk, mg "DEEPEST" = some (.int 6 tk)
  m_SHAPES : mg "SHAPES" = some (.ref t.c_SHAPES)
  shapes : ShOk w K t.c_SHAPES
section
variable {P : Program} {w : World} {K : PySem.W.Frag} {mg : Str → Option Value} {base : Heap} {t : Adr}
def isNm : D → Bool
  | .str s => nameOk s
  | _ => false
def sp_is_name : Sp := fun vs H Q _ => ∃ hd v d, vs = [v] ∧ DAt hd H v d ∧ ∀ H', Same H H' → Q (.bl (isNm d)) H'
theorem sc_is_name : FnScope ["thing"] ["thing"] (defScope s_is_name) := ⟨rfl, rfl, rfl, by decide +kernel, rfl, by decide +kernel, by decide +kernel⟩
theorem ok_is_name (T : Txt K mg t w) : FnOk P w K mg base CX0 1 t.f_is_name t.d_is_name ["thing"] sp_is_name := by
  refine T.is_name.F.ok (k := 0) sc_is_name (fun vs H Q E h => ?_) (fun cdv A outer s H vs Q E hr h => ?_)
  · obtain ⟨hd, v, d, rfl, _⟩ := h
    rfl
  · obtain ⟨hd, v, d, rfl, hv, k⟩ := h
    refine ⟨_, (@pss_cons _ _ _ _ _ (@ps_if _ _ _ _ _ _ _ _ (PW.pt (@pw_or _ _ _ _ _ _ _ (@pt_not _ _ _ _ (@pt_val _ _ _ (@pe_callB _ _ _ _ _ _ _ _ _ call_isinst (by rfl) T.b_isinstance PyProof.Rows.boot_isinstance (@pa_cons _ _ _ _ _ (pv 0) (@pa_cons _ _ _ _ _ (@pe_ty _ _ _ _ T.b_str PyProof.Rows.boot_str (by rfl) (by decide) (by decide)) (@pa_nil _) star_name) star_name) (by decide) (by decide) (by rfl) (by rfl)) (by intro _; rfl))) (@pw_or _ _ _ _ _ _ _ (@pt_cmpR _ _ _ _ _ _ _ _ op_lt (@pe_callB _ _ _ _ _ _ _ _ _ call_len_str (by rfl) T.b_len PySem.boot_len (@pa_cons _ _ _ _ _ (pv 0) (@pa_nil _) star_name) (by decide) (by decide) (by rfl) (by rfl)) (@pe_int _ _ _ _) (nomark _)) (@pw_or1 _ _ _ _ (@pt_cmpR _ _ _ _ _ _ _ _ op_gt (@pe_callB _ _ _ _ _ _ _ _ _ call_len_str (by rfl) T.b_len PySem.boot_len (@pa_cons _ _ _ _ _ (pv 0) (@pa_nil _) star_name) (by decide) (by decide) (by rfl) (by rfl)) (@pe_konI _ _ _ _ T.k_MOST_LETTERS (by rfl) (by decide)) (nomark _)))))) (@pss_one _ _ _ (@ps_ret _ _ _ _ (@pe_bl _ _ _ _))) (@pss_nil _)) (@pss_one _ _ _ (@ps_ret _ _ _ _ (@pe_callB _ _ _ _ _ _ _ _ _ (call_all rfl) (by rfl) T.b_all PyProof.Rows.boot_all (@pa_cons _ _ _ _ _ (@pe_lcomp _ _ _ _ _ [] _ ["letter"] _ (fun _ => [none]) _ _ rfl (@pi_str _ _ _ _ (pv 0)) (fun _ _ _ _ => pg_name (i := 0) (List.nodup_cons.mpr ⟨fun h => (nomatch h), List.nodup_nil⟩) rfl (Or.inl rfl) (.inr rfl)) (fun _ _ _ _ => (@pe_cmpR _ _ _ _ _ _ _ _ op_in_str (pv 0) (@pe_konS _ _ _ _ T.k_LETTERS (by rfl) (by decide)) rfl)) (closureFor_none (by decide +kernel)) rfl (by decide +kernel) (by decide +kernel) (fun _ _ h => by cases h) (noCells (by rfl)) (fun _ _ => rfl) (fun _ i _ _ _ h => by cases i with | zero => cases h | succ i => simp at h) (by intro _; rfl)) (@pa_nil _) star_lc) (by decide) (by decide) (by rfl) (by rfl))))), ?_⟩
    by_cases hs : d.isStr = true
    case neg =>
      have e0 : d.isStr = false := by simpa using hs
      refine st_ifN (b := true) (pt_or (b := true) (c := true) (pt_n (b := false) (pt_b (pu_isi (pa_c (pu_v rfl) (pa_c pu_c pa_n)) hv.ty (by rw [kd_str, e0])))) (fun e => by cases e)) (fun _ => ?_) (fun e => by cases e)
      have e1 : isNm d = false := by
        cases d <;> first | rfl | cases e0
      rw [e1] at k
      exact st_ret pu_c (k _ Same.rfl')
    cases hv with
    | str s ha =>
      obtain ⟨ha, hl⟩ := ha
      have big : 1000 ≤ sizeLine := by decide
      have LE : ∀ {σ : L2.St} {H' : Hp}, σ[0]? = some (some (.str s)) → Pu (tCB (fun xs H Q => ∃ z, xs = [.str z] ∧ z.length ≤ sizeLine ∧ Q (.int z.length) H) (tCons (tVar 0) tNil)) σ H' (.int (s.length : Nat)) := fun h => pu_lenS (pa_c (pu_v h) pa_n) (by omega)
      refine st_ifN (pt_or (b := false) (pt_n (b := true) (pt_b (pu_isi (pa_c (pu_v rfl) (pa_c pu_c pa_n)) (.str s) kit_same))) (fun _ => pt_or (pt_t (pu_lt (LE rfl) pu_c)) fun _ => pt_t (pu_gt (LE rfl) pu_c))) (fun e => ?_) (fun e => ?_)
      · have e1 : isNm (.str s) = false := by
          show nameOk s = false
          simp only [Bool.false_or, Bool.or_eq_true, decide_eq_true_iff] at e
          unfold nameOk
          rcases e with e | e
          · rw [decide_eq_false (by omega)]; rfl
          · rw [decide_eq_false (p := s.length ≤ 8) (by omega)]
            simp
        rw [e1] at k
        exact st_ret pu_c (k _ Same.rfl')
      · simp only [Bool.false_or, Bool.or_eq_false_iff, decide_eq_false_iff_not] at e
        have e1 : isNm (.str s) = (s.cps.toList.map fun c => decide (c ∈ (Str.ofString "abcdefghijklmnopqrstuvwxyz").cps.toList)).all id := by
          show nameOk s = _
          unfold nameOk
          rw [decide_eq_true (p := 1 ≤ s.length) (by omega), decide_eq_true (p := s.length ≤ 8) (by omega), List.all_map]
          rfl
        rw [e1] at k
        refine st_retG (gv_all (s.cps.toList.map fun c => decide (c ∈ (Str.ofString "abcdefghijklmnopqrstuvwxyz").cps.toList)) (gv_compS (fr := fun _ => [none]) (k := 0) (fun c => .bl (decide (c ∈ (Str.ofString "abcdefghijklmnopqrstuvwxyz").cps.toList))) (pu_v rfl) ha (by omega) (fun _ => KeepS.none1) fun c hc H' s => pu_inS (pu_v rfl) pu_c) ?_) ?_
        · rintro v H' ⟨D, hD, rfl, rfl⟩
          exact ⟨D, rfl, SqL.of (by rw [upd_same, List.map_map]; rfl)⟩
        · rintro v H' ⟨⟨p, D, hD, e1, rfl⟩, rfl⟩
          exact k _ (Same.upd hD)
    | _ => cases hs
def wholeD (d : D) : Bool := d.isInt && !d.isBool
def sp_is_whole : Sp := fun vs H Q _ => ∃ hd v d, vs = [v] ∧ DAt hd H v d ∧ Q (.bl (wholeD d)) H
theorem sc_is_whole : FnScope ["thing"] ["thing"] (defScope s_is_whole) := ⟨rfl, rfl, rfl, by decide +kernel, rfl, by decide +kernel, by decide +kernel⟩
theorem ok_is_whole (T : Txt K mg t w) : FnOk P w K mg base CX0 1 t.f_is_whole t.d_is_whole ["thing"] sp_is_whole := by
  refine T.is_whole.F.ok (k := 0) sc_is_whole (fun vs H Q E h => ?_) (fun cdv A outer s H vs Q E hr h => ?_)
  · obtain ⟨hd, v, d, rfl, _⟩ := h
    rfl
  · obtain ⟨hd, v, d, rfl, hv, k⟩ := h
    refine ⟨_, (@pss_one _ _ _ (@ps_ret _ _ _ _ (@pe_and _ _ _ _ _ _ _ (@pe_callB _ _ _ _ _ _ _ _ _ call_isinst (by rfl) T.b_isinstance PyProof.Rows.boot_isinstance (@pa_cons _ _ _ _ _ (pv 0) (@pa_cons _ _ _ _ _ (@pe_ty _ _ _ _ T.b_int PyProof.Rows.boot_int (by rfl) (by decide) (by decide)) (@pa_nil _) star_name) star_name) (by decide) (by decide) (by rfl) (by rfl)) (@pe_one _ _ _ _ _ (@pe_not _ _ _ _ (@pe_callB _ _ _ _ _ _ _ _ _ call_isinst (by rfl) T.b_isinstance PyProof.Rows.boot_isinstance (@pa_cons _ _ _ _ _ (pv 0) (@pa_cons _ _ _ _ _ (@pe_ty _ _ _ _ T.b_bool PyProof.Rows.boot_bool (by rfl) (by decide) (by decide)) (@pa_nil _) star_name) star_name) (by decide) (by decide) (by rfl) (by rfl))))))), ?_⟩
    exact st_ret (pu_and (pu_isi (pa_c (pu_v rfl) (pa_c pu_c pa_n)) hv.ty (kd_int d)) fun _ => pu_not (pu_isi (pa_c (pu_v rfl) (pa_c pu_c pa_n)) hv.ty (kd_bool d))) k
def sp_shape_of (K : PySem.W.Frag) : Sp := fun vs H Q _ => ∃ s, vs = [.str s] ∧ (shp s = none → Q .non H) ∧ ∀ ks a, shp s = some ks → (∀ H', SqT K H' a (ks.map fun k => V.str (kdS k))) → Q (.ref a) H
theorem sc_shape_of : FnScope ["word"] ["word"] (defScope s_shape_of) := ⟨rfl, rfl, rfl, by decide +kernel, rfl, by decide +kernel, by decide +kernel⟩
theorem ok_shape_of (T : Txt K mg t w) : FnOk P w K mg base CX0 1 t.f_shape_of t.d_shape_of ["word"] (sp_shape_of K) := by
  refine T.shape_of.F.ok (k := 0) sc_shape_of (fun vs H Q E h => ?_) (fun cdv A outer s H vs Q E hr h => ?_)
  · obtain ⟨s, rfl, _⟩ := h
    rfl
  · obtain ⟨x, rfl, k1, k2⟩ := h
    obtain ⟨l, hT, pr⟩ := T.shapes
    refine ⟨_, (@pss_one _ _ _ (@ps_ret _ _ _ _ (@pe_kget _ _ _ _ _ _ _ _ _ hT T.m_SHAPES (@pa_cons _ _ _ _ _ (pv 0) (@pa_nil _) star_name) (by rfl) (by decide) (by rfl) (by rfl) (by rfl) (by rfl) (by rfl)))), ?_⟩
    refine st_ret (v := tabV l x) (fun Q q => (pa_c (pu_v rfl) pa_n : PuA (tCons (tVar 0) tNil) _ _ [.str x]) _ ⟨x, rfl, q⟩) ?_
    rcases tab_find (s := x) pr with ⟨e1, e2⟩ | ⟨ks, a, e1, e2, hq⟩
    · rw [e2]
      exact k1 e1
    · rw [e2]
      exact k2 ks a e1 hq
def sp_is_wish_within (n : Nat) : Sp := fun vs H Q _ => ∃ hd v d, vs = [v, .int (n : Int)] ∧ DAt hd H v d ∧ ∀ H', Same H H' → Q (.bl (isW n d)) H'
def sp_is_part (n : Nat) : Sp := fun vs H Q _ => ∃ hd v d kd, vs = [.str (kdS kd), v, .int (n : Int)] ∧ DAt hd H v d ∧ ∀ H', Same H H' → Q (.bl (partOk (isW n) kd d)) H'
theorem sc_is_wish_within : FnScope ["thing", "depth", "shape"] ["thing", "depth"] (defScope s_is_wish_within) := ⟨rfl, rfl, rfl, by decide +kernel, rfl, by decide +kernel, by decide +kernel⟩
theorem sc_is_part : FnScope ["kind", "thing", "depth"] ["kind", "thing", "depth"] (defScope s_is_part) := ⟨rfl, rfl, rfl, by decide +kernel, rfl, by decide +kernel, by decide +kernel⟩
theorem part_name (W : D → Bool) (d : D) : partOk W .name d = isNm d := by cases d <;> rfl
theorem part_number (W : D → Bool) (d : D) : partOk W .number d = wholeD d := by cases d <;> rfl
theorem okB_isW (T : Txt K mg t w) {n k : Nat} (GW : FnOk P w K mg base CX0 k t.f_is_wish_within t.d_is_wish_within ["thing", "depth"] (sp_is_wish_within n)) (hk : 5 ≤ k) : FnOk P w K mg base CX0 (k + 1) t.f_is_part t.d_is_part ["kind", "thing", "depth"] (sp_is_part n) := by
  have ok_is_wish_within := fun (_ : Txt K mg t w) => GW
  refine T.is_part.F.ok (k := k) sc_is_part (fun vs H Q E h => ?_) (fun cdv A outer s H vs Q E hr h => ?_)
  · obtain ⟨hd, v, d, kd, rfl, _⟩ := h
    rfl
  · obtain ⟨hd, v, d, kd, rfl, hv, k⟩ := h
    refine ⟨_, (@pss_cons _ _ _ _ _ (@ps_if _ _ _ _ _ _ _ _ (@pt_cmpR _ _ _ _ _ _ _ _ op_eq (pv 0) (@pe_str _ _ _ _) (nomark _)) (@pss_one _ _ _ (@ps_ret _ _ _ _ (@pe_fn _ _ _ _ _ _ _ _ _ _ _ _ _ _ T.is_name (ok_is_name T) hr (by omega) (@pa_cons _ _ _ _ _ (pv 1) (@pa_nil _) star_name) (by rfl) (by decide) (by rfl) (by rfl)))) (@pss_nil _)) (@pss_cons _ _ _ _ _ (@ps_if _ _ _ _ _ _ _ _ (@pt_cmpR _ _ _ _ _ _ _ _ op_eq (pv 0) (@pe_str _ _ _ _) (nomark _)) (@pss_one _ _ _ (@ps_ret _ _ _ _ (@pe_fn _ _ _ _ _ _ _ _ _ _ _ _ _ _ T.is_whole (ok_is_whole T) hr (by omega) (@pa_cons _ _ _ _ _ (pv 1) (@pa_nil _) star_name) (by rfl) (by decide) (by rfl) (by rfl)))) (@pss_nil _)) (@pss_one _ _ _ (@ps_ret _ _ _ _ (@pe_fn _ _ _ _ _ _ _ _ _ _ _ _ _ _ T.is_wish_within (ok_is_wish_within T) hr (by omega) (@pa_cons _ _ _ _ _ (pv 1) (@pa_cons _ _ _ _ _ (pv 2) (@pa_nil _) star_name) star_name) (by rfl) (by decide) (by rfl) (by rfl)))))), ?_⟩
    cases kd with
    | name =>
      rw [part_name] at k
      refine st_ifN (pt_t (pu_eqStr (pu_v rfl) pu_c)) (fun _ => ?_) (fun e => absurd e (by decide +kernel))
      exact st_retG (R := fun v H' => v = .bl (isNm d) ∧ Same H H') (gv_call (pa_c (pu_v rfl) pa_n) fun Q q => ⟨hd, v, d, rfl, hv, fun H' s => q _ _ ⟨rfl, s⟩⟩) fun _ H' e => by obtain ⟨rfl, s⟩ := e; exact k H' s
    | number =>
      rw [part_number] at k
      refine st_ifN (pt_t (pu_eqStr (pu_v rfl) pu_c)) (fun e => absurd e (by decide +kernel)) (fun _ => ?_)
      refine st_ifN (pt_t (pu_eqStr (pu_v rfl) pu_c)) (fun _ => ?_) (fun e => absurd e (by decide +kernel))
      exact st_ret (pu_call (pa_c (pu_v rfl) pa_n) fun Q q => ⟨hd, v, d, rfl, hv, q⟩) (k _ Same.rfl')
    | wish =>
      refine st_ifN (pt_t (pu_eqStr (pu_v rfl) pu_c)) (fun e => absurd e (by decide +kernel)) (fun _ => ?_)
      refine st_ifN (pt_t (pu_eqStr (pu_v rfl) pu_c)) (fun e => absurd e (by decide +kernel)) (fun _ => ?_)
      exact st_retG (R := fun v H' => v = .bl (isW n d) ∧ Same H H') (gv_call (pa_c (pu_v rfl) (pa_c (pu_v rfl) pa_n)) fun Q q => ⟨hd, v, d, rfl, hv, fun H' s => q _ _ ⟨rfl, s⟩⟩) fun _ H' e => by obtain ⟨rfl, s⟩ := e; exact k H' s
theorem at0 {x : V} {xs : List V} : atI (x :: xs) 0 = some x := atI_nat (j := 0) rfl
theorem pu_isN {σ : L2.St} {H : Hp} {ta tb : TE} {x : V} (ha : Pu ta σ H x) (hb : Pu tb σ H .non) : Pu (tOp (fun x y H Q => y = .non ∧ Q (.bl (decide (x = .non))) H) ta tb) σ H (.bl (decide (x = .non))) := fun _ q => ha _ (hb _ ⟨rfl, q⟩)
theorem partsOk_len (W : D → Bool) : ∀ (ks : List Kd) (ds : List D), ks.length ≠ ds.length → partsOk W ks ds = false
  | [], [], h => absurd rfl h
  | [], _ :: _, _ => rfl
  | _ :: _, [], _ => rfl
  | k :: ks, d :: ds, h => by
    have := partsOk_len W ks ds (fun e => h (by simp [e]))
    simp [partsOk, this]
theorem partsOk_all (W : D → Bool) : ∀ (ks : List Kd) (ds : List D), ks.length = ds.length → partsOk W ks ds = (List.zipWith (partOk W) ks ds).all id
  | [], [], _ => rfl
  | k :: ks, d :: ds, h => by
    have := partsOk_all W ks ds (by simpa using h)
    simp [partsOk, this]
theorem okA_isW (T : Txt K mg t w) {n k : Nat} {spP : Sp} (GP : FnOk P w K mg base CX0 k t.f_is_part t.d_is_part ["kind", "thing", "depth"] spP) (hk : 5 ≤ k) (hsp : ∀ m, n = m + 1 → spP = sp_is_part m) : FnOk P w K mg base CX0 (k + 1) t.f_is_wish_within t.d_is_wish_within ["thing", "depth"] (sp_is_wish_within n) := by
  have ok_is_part := fun (_ : Txt K mg t w) => GP
  refine T.is_wish_within.F.ok (k := k) sc_is_wish_within (fun vs H Q E h => ?_) (fun cdv A outer s H vs Q E hr h => ?_)
  · obtain ⟨hd, v, d, rfl, _⟩ := h
    rfl
  · obtain ⟨hd, v, d, rfl, hv, k⟩ := h
    refine ⟨_, (@pss_cons _ _ _ _ _ (@ps_if _ _ _ _ _ _ _ _ (PW.pt (@pw_or _ _ _ _ _ _ _ (@pt_cmpR _ _ _ _ _ _ _ _ op_eq (pv 1) (@pe_int _ _ _ _) (nomark _)) (@pw_or _ _ _ _ _ _ _ (@pt_not _ _ _ _ (@pt_val _ _ _ (@pe_callB _ _ _ _ _ _ _ _ _ call_isinst (by rfl) T.b_isinstance PyProof.Rows.boot_isinstance (@pa_cons _ _ _ _ _ (pv 0) (@pa_cons _ _ _ _ _ (@pe_ty _ _ _ _ T.b_tuple PyProof.Rows.boot_tuple (by rfl) (by decide) (by decide)) (@pa_nil _) star_name) star_name) (by decide) (by decide) (by rfl) (by rfl)) (by intro _; rfl))) (@pw_or _ _ _ _ _ _ _ (@pt_cmpR _ _ _ _ _ _ _ _ op_eq (@pe_callB _ _ _ _ _ _ _ _ _ call_len_seq (by rfl) T.b_len PySem.boot_len (@pa_cons _ _ _ _ _ (pv 0) (@pa_nil _) star_name) (by decide) (by decide) (by rfl) (by rfl)) (@pe_int _ _ _ _) (nomark _)) (@pw_or1 _ _ _ _ (@pt_not _ _ _ _ (@pt_val _ _ _ (@pe_callB _ _ _ _ _ _ _ _ _ call_isinst (by rfl) T.b_isinstance PyProof.Rows.boot_isinstance (@pa_cons _ _ _ _ _ (@pe_ix _ _ _ _ _ _ _ ix_tup (pv 0) (@pe_int _ _ _ _) (fun _ _ => rfl)) (@pa_cons _ _ _ _ _ (@pe_ty _ _ _ _ T.b_str PyProof.Rows.boot_str (by rfl) (by decide) (by decide)) (@pa_nil _) star_name) star_sub) (by decide) (by decide) (by rfl) (by rfl)) (by intro _; rfl)))))))) (@pss_one _ _ _ (@ps_ret _ _ _ _ (@pe_bl _ _ _ _))) (@pss_nil _)) (@pss_cons _ _ _ _ _ (@ps_set _ _ 2 _ _ _ _ sc_is_wish_within.nd rfl (Or.inl rfl) (@pe_fn _ _ _ _ _ _ _ _ _ _ _ _ _ _ T.shape_of (ok_shape_of T) hr (by omega) (@pa_cons _ _ _ _ _ (@pe_ix _ _ _ _ _ _ _ ix_tup (pv 0) (@pe_int _ _ _ _) (fun _ _ => rfl)) (@pa_nil _) star_sub) (by rfl) (by decide) (by rfl) (by rfl)) (by rfl) (by first | exact .inl rfl | exact .inr rfl | assumption)) (@pss_cons _ _ _ _ _ (@ps_if _ _ _ _ _ _ _ _ (PW.pt (@pw_or _ _ _ _ _ _ _ (@pt_cmpR _ _ _ _ _ _ _ _ op_isN (pv 2) (@pe_non _ _ _) (nomark _)) (@pw_or1 _ _ _ _ (@pt_cmpR _ _ _ _ _ _ _ _ op_ne (@pe_callB _ _ _ _ _ _ _ _ _ call_len_seq (by rfl) T.b_len PySem.boot_len (@pa_cons _ _ _ _ _ (pv 0) (@pa_nil _) star_name) (by decide) (by decide) (by rfl) (by rfl)) (@pe_op _ _ _ _ _ _ _ _ op_add (@pe_callB _ _ _ _ _ _ _ _ _ call_len_seq (by rfl) T.b_len PySem.boot_len (@pa_cons _ _ _ _ _ (pv 2) (@pa_nil _) star_name) (by decide) (by decide) (by rfl) (by rfl)) (@pe_int _ _ _ _)) (nomark _))))) (@pss_one _ _ _ (@ps_ret _ _ _ _ (@pe_bl _ _ _ _))) (@pss_nil _)) (@pss_one _ _ _ (@ps_ret _ _ _ _ (@pe_callB _ _ _ _ _ _ _ _ _ (call_all rfl) (by rfl) T.b_all PyProof.Rows.boot_all (@pa_cons _ _ _ _ _ (@pe_lcompC2 _ "kind" "part" "depth" _ _ _ _ _ _ _ _ _ 1 rfl (@pi_zipTT _ _ _ _ _ _ _ _ _ rfl T.b_zip PyProof.Rows.Boot.«zip» (@pa_cons _ _ _ _ _ (pv 2) (@pa_cons _ _ _ _ _ (@pe_slice _ _ _ _ _ _ _ _ _ _ sl_tup (pv 0) (@po_some _ _ _ (@pe_int _ _ _ _)) (@po_none _)) (@pa_nil _) star_sub) star_name) (by rfl) (by rfl)) (fun _ _ _ _ => pg_tupK (K := K) (n := 2) rfl rfl (@pgs_cons _ _ _ _ _ (@pg_name _ _ 0 _ (show (["kind", "part", "depth"] : List Str).Nodup from by decide +kernel) rfl (Or.inl rfl) (.inr rfl)) (@pgs_cons _ _ _ _ _ (@pg_name _ _ 1 _ (show (["kind", "part", "depth"] : List Str).Nodup from by decide +kernel) rfl (Or.inl rfl) (.inr rfl)) (@pgs_nil _) (by rfl)) (by rfl)) rfl rfl) (fun _ _ _ _ => (@pe_fn _ _ _ _ _ _ _ _ _ _ _ _ _ _ T.is_part (ok_is_part T) hr (by omega) (@pa_cons _ _ _ _ _ (pv 0) (@pa_cons _ _ _ _ _ (pv 1) (@pa_cons _ _ _ _ _ (@pe_op _ _ _ _ _ _ _ _ op_sub (pv 2) (@pe_int _ _ _ _)) (@pa_nil _) star_bin) star_name) star_name) (by rfl) (by decide) (by rfl) (by rfl))) rfl rfl (by decide +kernel) (by decide +kernel) rfl rfl rfl rfl rfl (by intro _; rfl)) (@pa_nil _) star_lc) (by decide) (by decide) (by rfl) (by rfl))))))), ?_⟩
    cases n with
    | zero =>
      refine st_ifN (b := true) (pt_or (b := true) (c := true) (pt_t (pu_cast (pu_eqI (pu_v rfl) pu_c) (by simp))) (fun e => by cases e)) (fun _ => ?_) (fun e => by cases e)
      exact st_ret pu_c (k _ Same.rfl')
    | succ n =>
    have e := hsp n rfl
    subst e
    have D0 : ∀ {σ : L2.St} {H' : Hp}, σ[1]? = some (some (.int ((n + 1 : Nat) : Int))) → PuT (tTest (tOp rEq (tVar 1) (tC (.int 0)))) σ H' false := fun h => pt_t (pu_cast (pu_eqI (pu_v h) pu_c) (by rw [decide_eq_false (by omega)]))
    by_cases ht : d.isTup = true
    case neg =>
      have e0 : d.isTup = false := by simpa using ht
      refine st_ifN (b := true) (pt_or (b := false) (c := true) (D0 rfl) fun _ => pt_or (b := true) (c := true) (pt_n (b := false) (pt_b (pu_isi (pa_c (pu_v rfl) (pa_c pu_c pa_n)) hv.ty (by rw [kd_tup, e0])))) (fun e => by cases e)) (fun _ => ?_) (fun e => by cases e)
      have e1 : isW (n + 1) d = false := by
        cases d <;> first | rfl | cases e0
      rw [e1] at k
      exact st_ret pu_c (k _ Same.rfl')
    cases hv with
    | @tup a xs ds h td =>
      cases td with
      | nil =>
        refine st_ifN (b := true) (pt_or (b := false) (c := true) (D0 rfl) fun _ => pt_or (b := false) (c := true) (pt_n (b := true) (pt_b (pu_isi (pa_c (pu_v rfl) (pa_c pu_c pa_n)) (.tup h) kit_same))) fun _ => pt_or (b := true) (c := true) (pt_t (pu_cast (pu_eqI (pu_lenT (pa_c (pu_v rfl) pa_n) (SqT.of h)) pu_c) (by simp))) (fun e => by cases e)) (fun _ => ?_) (fun e => by cases e)
        exact st_ret pu_c (k _ Same.rfl')
      | @cons x0 d0 xs ds h0 td =>
        by_cases hs : d0.isStr = true
        case neg =>
          have e0 : d0.isStr = false := by simpa using hs
          refine st_ifN (b := true) (pt_or (b := false) (c := true) (D0 rfl) fun _ => pt_or (b := false) (c := true) (pt_n (b := true) (pt_b (pu_isi (pa_c (pu_v rfl) (pa_c pu_c pa_n)) (.tup h) kit_same))) fun _ => pt_or (b := false) (c := true) (pt_t (pu_cast (pu_eqI (pu_lenT (pa_c (pu_v rfl) pa_n) (SqT.of h)) pu_c) (by rw [decide_eq_false]; simp; omega))) fun _ => pt_n (b := false) (pt_b (pu_isi (pa_c (pu_ixT (pu_v rfl) pu_c (SqT.of h) at0) (pa_c pu_c pa_n)) h0.ty (by rw [kd_str, e0])))) (fun _ => ?_) (fun e => by cases e)
          have e1 : isW (n + 1) (.tup (d0 :: ds)) = false := by
            cases d0 <;> first | rfl | cases e0
          rw [e1] at k
          exact st_ret pu_c (k _ Same.rfl')
        cases h0 with
        | str x hx =>
          have hlen := td.len
          refine st_ifN (b := false) (pt_or (b := false) (c := false) (D0 rfl) fun _ => pt_or (b := false) (c := false) (pt_n (b := true) (pt_b (pu_isi (pa_c (pu_v rfl) (pa_c pu_c pa_n)) (.tup h) kit_same))) fun _ => pt_or (b := false) (c := false) (pt_t (pu_cast (pu_eqI (pu_lenT (pa_c (pu_v rfl) pa_n) (SqT.of h)) pu_c) (by rw [decide_eq_false]; simp; omega))) fun _ => pt_n (b := true) (pt_b (pu_isi (pa_c (pu_ixT (pu_v rfl) pu_c (SqT.of h) at0) (pa_c pu_c pa_n)) (.str x) kit_same))) (fun e => by cases e) (fun _ => ?_)
          cases hp : shp x with
          | none =>
            have e1 : isW (n + 1) (.tup (.str x :: ds)) = false := by simp [isW, hp]
            rw [e1] at k
            refine st_set (v := .non) (pu_call (pa_c (pu_ixT (pu_v rfl) pu_c (SqT.of h) at0) pa_n) fun Q q => ⟨x, rfl, fun _ => q, fun ks a e _ => by rw [hp] at e; cases e⟩) ?_
            refine st_ifN (b := true) (pt_or (b := true) (c := true) (pt_t (pu_cast (pu_isN (pu_v rfl) pu_c) (by simp))) (fun e => by cases e)) (fun _ => ?_) (fun e => by cases e)
            exact st_ret pu_c (k _ Same.rfl')
          | some ks =>
            have e1 : isW (n + 1) (.tup (.str x :: ds)) = partsOk (isW n) ks ds := by simp [isW, hp]
            rw [e1] at k
            refine st_setG (R := fun v H' => H = H' ∧ ∃ a0, v = .ref a0 ∧ ∀ H', SqT K H' a0 (ks.map fun k => V.str (kdS k))) (gv_call (pa_c (pu_ixT (pu_v rfl) pu_c (SqT.of h) at0) pa_n) fun Q q => ⟨x, rfl, (fun e => by rw [hp] at e; cases e), fun ks' a e sq => by rw [hp] at e; cases e; exact q _ _ ⟨rfl, a, rfl, sq⟩⟩) ?_
            rintro _ _ ⟨rfl, a0, rfl, sq⟩
            have hcmp : ∀ {σ : L2.St}, σ[0]? = some (some (.ref a)) → σ[2]? = some (some (.ref a0)) → PuT (tOr (tTest (tOp (fun x y H Q => y = .non ∧ Q (.bl (decide (x = .non))) H) (tVar 2) (tC .non))) (tTest (tOp rNe (tCB (fun xs H Q => ∃ p ys, xs = [.ref p] ∧ (SqL K H p ys ∨ SqT K H p ys) ∧ Q (.int ys.length) H) (tCons (tVar 0) tNil)) (tOp (rI0 fun i j => .int (i + j)) (tCB (fun xs H Q => ∃ p ys, xs = [.ref p] ∧ (SqL K H p ys ∨ SqT K H p ys) ∧ Q (.int ys.length) H) (tCons (tVar 2) tNil)) (tC (.int 1)))))) σ H (!decide (ds.length = ks.length)) := fun h0 h2 => by
              refine pt_or (b := false) (c := !decide (ds.length = ks.length)) (pt_t (pu_cast (pu_isN (pu_v h2) pu_c) (by simp))) fun _ => pt_t (pu_cast (pu_neI (pu_lenT (pa_c (pu_v h0) pa_n) (SqT.of h)) (pu_add (pu_lenT (pa_c (pu_v h2) pa_n) (sq H)) pu_c)) ?_)
              rw [List.length_map, List.length_cons, hlen]
              congr 2
              rw [decide_eq_decide]
              omega
            refine st_ifN (hcmp rfl rfl) (fun e => ?_) (fun e => ?_)
            · have ne : ks.length ≠ ds.length := by
                intro z
                simp [z] at e
              rw [partsOk_len _ _ _ ne] at k
              exact st_ret pu_c (k _ Same.rfl')
            · have eq : ds.length = ks.length := by simpa using e
              rw [partsOk_all _ _ _ eq.symm] at k
              have hz : ks.length ≤ 1000 := by
                have : ∀ q ∈ shTab, q.2.length ≤ 1000 := by decide +kernel
                unfold shp at hp
                cases hf : shTab.find? (fun p => p.1 == x) with
                | none => rw [hf] at hp; cases hp
                | some q =>
                  rw [hf] at hp
                  cases hp
                  exact this q (List.mem_of_find?_eq_some hf)
              refine st_retG (gv_all (List.zipWith (partOk (isW n)) ks ds) (gv_compZT (xs := ks.map fun k => V.str (kdS k)) (ys := xs) (ws := (List.zipWith (partOk (isW n)) ks ds).map V.bl) (f := [some (.int ((n + 1 : Nat) : Int))]) rfl (ga_cons (Pu.gv (v := .ref a0) (pu_v rfl)) fun _ _ e1 => ga_cons (R1 := fun v H' => ∃ p, H p = none ∧ v = .ref p ∧ H' = upd H p (.tup xs)) (by obtain ⟨rfl, rfl⟩ := e1; exact gv_tl (pu_v rfl) h) fun _ _ _ => ga_nil) ?_ (by rw [List.length_map]; exact hz) (by rw [List.length_map, hlen, eq]) (by rw [List.length_map, List.length_map, List.length_zipWith, eq, Nat.min_self]) ?_) ?_) ?_
              · rintro vs H1 ⟨_, _, r, rfl, ⟨rfl, rfl⟩, _, _, r2, rfl, ⟨p, hp', rfl, rfl⟩, rfl, rfl⟩
                exact ⟨a0, p, rfl, Same.upd hp', fun H2 s => sq H2, fun H2 s => SqT.of (s _ _ upd_same)⟩
              · intro i u y b H' hu hy hb s
                obtain ⟨di, hdi, hy'⟩ := td.get hy
                rw [List.getElem?_map] at hu
                cases hki : ks[i]? with
                | none => rw [hki] at hu; cases hu
                | some ki =>
                  rw [hki] at hu
                  have e1 : V.str (kdS ki) = u := Option.some.inj hu
                  subst e1
                  rw [List.getElem?_map, List.getElem?_zipWith, hki, hdi] at hb
                  have e2 : V.bl (partOk (isW n) ki di) = b := Option.some.inj hb
                  subst e2
                  refine gv_call (pa_c (pu_v rfl) (pa_c (pu_v rfl) (pa_c (pu_sub (pu_v rfl) pu_c) pa_n))) fun Q q => ⟨hd, y, di, ki, ?_, hy'.same s, fun H'' s' => q _ _ ⟨rfl, s'⟩⟩
                  show [V.str (kdS ki), y, V.int (((n + 1 : Nat) : Int) - 1)] = _
                  rw [show (((n + 1 : Nat) : Int) - 1) = (n : Int) by omega]
              · rintro v H' ⟨s', D, rfl, _, hD⟩
                exact ⟨D, rfl, SqL.of hD⟩
              · rintro v H' ⟨⟨p, s', D, e1, _, hD⟩, rfl⟩
                exact k _ s'
        | _ => cases hs
    | _ => cases ht
theorem okr_isW (T : Txt K mg t w) : ∀ n : Nat, FnOk P w K mg base CX0 (6 + 2 * n) t.f_is_wish_within t.d_is_wish_within ["thing", "depth"] (sp_is_wish_within n)
  | 0 => okA_isW T ((T.is_part.F.okNo sc_is_part).mono (by decide : 1 ≤ 5)) (by decide) (fun m e => by cases e)
  | n + 1 => okA_isW T (k := 7 + 2 * n) ((okB_isW T (okr_isW T n) (by omega)).mono (by omega)) (by omega) (fun m e => by cases e; rfl) |>.mono (by omega)
theorem ok_is_wish_within (T : Txt K mg t w) : FnOk P w K mg base CX0 18 t.f_is_wish_within t.d_is_wish_within ["thing", "depth"] (sp_is_wish_within 6) := okr_isW T 6
def sp_is_wish : Sp := fun vs H Q _ => ∃ hd v d, vs = [v] ∧ DAt hd H v d ∧ ∀ H', Same H H' → Q (.bl (isW 6 d)) H'
theorem sc_is_wish : FnScope ["thing"] ["thing"] (defScope s_is_wish) := ⟨rfl, rfl, rfl, by decide +kernel, rfl, by decide +kernel, by decide +kernel⟩
theorem ok_is_wish (T : Txt K mg t w) : FnOk P w K mg base CX0 19 t.f_is_wish t.d_is_wish ["thing"] sp_is_wish := by
  refine T.is_wish.F.ok (k := 18) sc_is_wish (fun vs H Q E h => ?_) (fun cdv A outer s H vs Q E hr h => ?_)
  · obtain ⟨hd, v, d, rfl, _⟩ := h
    rfl
  · obtain ⟨hd, v, d, rfl, hv, k⟩ := h
    refine ⟨_, (@pss_one _ _ _ (@ps_ret _ _ _ _ (@pe_fn _ _ _ _ _ _ _ _ _ _ _ _ _ _ T.is_wish_within (ok_is_wish_within T) hr (by decide) (@pa_cons _ _ _ _ _ (pv 0) (@pa_cons _ _ _ _ _ (@pe_konI _ _ _ _ T.k_DEEPEST (by rfl) (by decide)) (@pa_nil _) star_name) star_name) (by rfl) (by decide) (by rfl) (by rfl)))), ?_⟩
    exact st_retG (R := fun v H' => v = .bl (isW 6 d) ∧ Same H H') (gv_call (pa_c (pu_v rfl) (pa_c pu_c pa_n)) fun Q q => ⟨hd, v, d, rfl, hv, fun H' s => q _ _ ⟨rfl, s⟩⟩) fun _ H' e => by obtain ⟨rfl, s⟩ := e; exact k H' s
def sp_check_wish : Sp := fun vs H Q _ => ∃ hd v d, vs = [v] ∧ DAt hd H v d ∧ isW 6 d = true ∧ ∀ H', Same H H' → Q .non H'
theorem sc_check_wish : FnScope ["thing"] ["thing"] (defScope s_check_wish) := ⟨rfl, rfl, rfl, by decide +kernel, rfl, by decide +kernel, by decide +kernel⟩
theorem ok_check_wish (T : Txt K mg t w) : FnOk P w K mg base CX0 20 t.f_check_wish t.d_check_wish ["thing"] sp_check_wish := by
  refine T.check_wish.F.ok (k := 19) sc_check_wish (fun vs H Q E h => ?_) (fun cdv A outer s H vs Q E hr h => ?_)
  · obtain ⟨hd, v, d, rfl, _⟩ := h
    rfl
  · obtain ⟨hd, v, d, rfl, hv, good, k⟩ := h
    refine ⟨_, (@pss_one _ _ _ (@ps_if _ _ _ _ _ _ _ _ (@pt_not _ _ _ _ (@pt_val _ _ _ (@pe_fn _ _ _ _ _ _ _ _ _ _ _ _ _ _ T.is_wish (ok_is_wish T) hr (by decide) (@pa_cons _ _ _ _ _ (pv 0) (@pa_nil _) star_name) (by rfl) (by decide) (by rfl) (by rfl)) (by intro _; rfl))) (@pss_one _ _ _ (@ps_never _ _)) (@pss_nil _))), ?_⟩
    exact st_ifNG1 (R := fun b H' => b = false ∧ Same H H') (gt_nt (gv_call (sp := sp_is_wish) (E := E0) (pa_c (pu_v rfl) pa_n) (fun Q g => ⟨hd, v, d, rfl, hv, fun H' s => g _ _ ⟨by rw [good], s⟩⟩))) (fun H' e => by cases e.1) (fun H' e => k H' e.2)
def ev (rs : List (Str × Int)) : Wi → Bool
  | .inn n => !decide (getR rs n = 0)
  | .rnd n k => decide (getR rs n = k)
  | .lst k => decide (k ≤ ((cntR rs : Nat) : Int))
  | .no u => !ev rs u
  | .both a b => ev rs a && ev rs b
  | .any a b => ev rs a || ev rs b
def sp_is_met (n : Nat) : Sp := fun vs H Q _ => ∃ hd v u d rs, vs = [v, .ref d] ∧ DAt hd H v (Wi.d u) ∧ u.deep ≤ n ∧ H d = some (.dK (kvR rs)) ∧ rs.length ≤ 1000 ∧ ∀ H', Same H H' → Q (.bl (ev rs u)) H'
theorem sc_is_met : FnScope ["wish", "rounds", "word"] ["wish", "rounds"] (defScope s_is_met) := ⟨rfl, rfl, rfl, by decide +kernel, rfl, by decide +kernel, by decide +kernel⟩
theorem at1 {x y : V} {xs : List V} : atI (x :: y :: xs) 1 = some y := atI_nat (j := 1) rfl
theorem at2 {x y z : V} {xs : List V} : atI (x :: y :: z :: xs) 2 = some z := atI_nat (j := 2) rfl
theorem gv_orG {σ : L2.St} {H : Hp} {ta tb : TE} {R R' : V → Hp → Prop} (h : Gv ta σ H R) (f : ∀ v H', R v H' → ∃ c, v = .bl c ∧ (c = false → Gv tb σ H' R') ∧ (c = true → R' (.bl true) H')) : Gv (tOrV ta tb) σ H R' := fun Q q => h _ fun v H' r => by
  obtain ⟨c, rfl, h1, h2⟩ := f v H' r
  cases c with
  | true => exact ⟨true, rfl, by rw [if_pos rfl]; exact q _ _ (h2 rfl)⟩
  | false => exact ⟨false, rfl, by rw [if_neg (by decide)]; exact h1 rfl Q q⟩
theorem gv_opG {σ : L2.St} {H : Hp} {r : V → V → Hp → VK → Prop} {ta tb : TE} {R1 : V → Hp → Prop} {R2 : V → V → Hp → Prop} {R : V → Hp → Prop} (ha : Gv ta σ H R1) (hb : ∀ x H1, R1 x H1 → Gv tb σ H1 (R2 x)) (hr : ∀ x y H2, R2 x y H2 → ∀ Q : VK, (∀ v H', R v H' → Q v H') → r x y H2 Q) : Gv (tOp r ta tb) σ H R := fun Q q => ha _ fun x H1 h1 => hb x H1 h1 _ fun y H2 h2 => hr x y H2 h2 Q q
theorem okA_met (T : Txt K mg t w) {n k : Nat} (GP : FnOk P w K mg base CX0 k t.f_is_met t.d_is_met ["wish", "rounds"] (sp_is_met n)) (hk : 5 ≤ k) : FnOk P w K mg base CX0 (k + 1) t.f_is_met t.d_is_met ["wish", "rounds"] (sp_is_met (n + 1)) := by
  have ok_is_met := fun (_ : Txt K mg t w) => GP
  refine T.is_met.F.ok (k := k) sc_is_met (fun vs H Q E h => ?_) (fun cdv A outer s H vs Q E hr h => ?_)
  · obtain ⟨hd, v, u, d, rs, rfl, _⟩ := h
    rfl
  · obtain ⟨hd, v, u, d, rs, rfl, hv, dp, hd', hz, k⟩ := h
    refine ⟨_, (@pss_cons _ _ _ _ _ (@ps_set _ _ 2 _ _ _ _ sc_is_met.nd rfl (Or.inl rfl) (@pe_ix _ _ _ _ _ _ _ ix_tup (pv 0) (@pe_int _ _ _ _) (fun _ _ => rfl)) (by rfl) (by first | exact .inl rfl | exact .inr rfl | assumption)) (@pss_cons _ _ _ _ _ (@ps_if _ _ _ _ _ _ _ _ (@pt_cmpR _ _ _ _ _ _ _ _ op_eq (pv 2) (@pe_str _ _ _ _) (nomark _)) (@pss_one _ _ _ (@ps_ret _ _ _ _ (@pe_cmpR _ _ _ _ _ _ _ _ op_ne (pe_dget2 (hu_of hr) (pv 1) (@pe_ix _ _ _ _ _ _ _ ix_tup (pv 0) (@pe_int _ _ _ _) (fun _ _ => rfl)) (@pe_int _ _ _ _) (M2.mk rfl rfl rfl rfl)) (@pe_int _ _ _ _) (nomark _)))) (@pss_nil _)) (@pss_cons _ _ _ _ _ (@ps_if _ _ _ _ _ _ _ _ (@pt_cmpR _ _ _ _ _ _ _ _ op_eq (pv 2) (@pe_str _ _ _ _) (nomark _)) (@pss_one _ _ _ (@ps_ret _ _ _ _ (@pe_cmpR _ _ _ _ _ _ _ _ op_eq (pe_dget2 (hu_of hr) (pv 1) (@pe_ix _ _ _ _ _ _ _ ix_tup (pv 0) (@pe_int _ _ _ _) (fun _ _ => rfl)) (@pe_int _ _ _ _) (M2.mk rfl rfl rfl rfl)) (@pe_ix _ _ _ _ _ _ _ ix_tup (pv 0) (@pe_int _ _ _ _) (fun _ _ => rfl)) (nomark _)))) (@pss_nil _)) (@pss_cons _ _ _ _ _ (@ps_if _ _ _ _ _ _ _ _ (@pt_cmpR _ _ _ _ _ _ _ _ op_eq (pv 2) (@pe_str _ _ _ _) (nomark _)) (@pss_one _ _ _ (@ps_ret _ _ _ _ (@pe_cmpR _ _ _ _ _ _ _ _ op_ge (@pe_callB _ _ _ _ _ _ _ _ _ call_len_seq (by rfl) T.b_len PySem.boot_len (@pa_cons _ _ _ _ _ (pe_thaw (pe_lcompF (N' := ["number"]) (cl := []) (fr := fun _ => [none]) rfl (pi_valsF (pv 1)) (fun _ _ _ _ => pg_name (i := 0) (List.nodup_cons.mpr ⟨fun h => (nomatch h), List.nodup_nil⟩) rfl (Or.inl rfl) (.inr rfl)) (fun _ _ _ _ => (@pt_cmpR _ _ _ _ _ _ _ _ op_ne (pv 0) (@pe_int _ _ _ _) (nomark _))) (fun _ _ _ _ => (pv 0)) (closureFor_none (by decide +kernel)) rfl (by decide +kernel) (by decide +kernel) (fun _ _ h => by cases h) (noCells (by rfl)) (fun _ _ => rfl) (fun _ i _ _ _ h => by cases i with | zero => cases h | succ i => simp at h))) (@pa_nil _) star_lc) (by decide) (by decide) (by rfl) (by rfl)) (@pe_ix _ _ _ _ _ _ _ ix_tup (pv 0) (@pe_int _ _ _ _) (fun _ _ => rfl)) (nomark _)))) (@pss_nil _)) (@pss_cons _ _ _ _ _ (@ps_if _ _ _ _ _ _ _ _ (@pt_cmpR _ _ _ _ _ _ _ _ op_eq (pv 2) (@pe_str _ _ _ _) (nomark _)) (@pss_one _ _ _ (@ps_ret _ _ _ _ (@pe_not _ _ _ _ (@pe_fn _ _ _ _ _ _ _ _ _ _ _ _ _ _ T.is_met (ok_is_met T) hr (by omega) (@pa_cons _ _ _ _ _ (@pe_ix _ _ _ _ _ _ _ ix_tup (pv 0) (@pe_int _ _ _ _) (fun _ _ => rfl)) (@pa_cons _ _ _ _ _ (pv 1) (@pa_nil _) star_name) star_sub) (by rfl) (by decide) (by rfl) (by rfl))))) (@pss_nil _)) (@pss_cons _ _ _ _ _ (@ps_if _ _ _ _ _ _ _ _ (@pt_cmpR _ _ _ _ _ _ _ _ op_eq (pv 2) (@pe_str _ _ _ _) (nomark _)) (@pss_one _ _ _ (@ps_ret _ _ _ _ (@pe_and _ _ _ _ _ _ _ (@pe_fn _ _ _ _ _ _ _ _ _ _ _ _ _ _ T.is_met (ok_is_met T) hr (by omega) (@pa_cons _ _ _ _ _ (@pe_ix _ _ _ _ _ _ _ ix_tup (pv 0) (@pe_int _ _ _ _) (fun _ _ => rfl)) (@pa_cons _ _ _ _ _ (pv 1) (@pa_nil _) star_name) star_sub) (by rfl) (by decide) (by rfl) (by rfl)) (@pe_one _ _ _ _ _ (@pe_fn _ _ _ _ _ _ _ _ _ _ _ _ _ _ T.is_met (ok_is_met T) hr (by omega) (@pa_cons _ _ _ _ _ (@pe_ix _ _ _ _ _ _ _ ix_tup (pv 0) (@pe_int _ _ _ _) (fun _ _ => rfl)) (@pa_cons _ _ _ _ _ (pv 1) (@pa_nil _) star_name) star_sub) (by rfl) (by decide) (by rfl) (by rfl)))))) (@pss_nil _)) (@pss_one _ _ _ (@ps_ret _ _ _ _ (@pe_or _ _ _ _ _ _ _ (@pe_fn _ _ _ _ _ _ _ _ _ _ _ _ _ _ T.is_met (ok_is_met T) hr (by omega) (@pa_cons _ _ _ _ _ (@pe_ix _ _ _ _ _ _ _ ix_tup (pv 0) (@pe_int _ _ _ _) (fun _ _ => rfl)) (@pa_cons _ _ _ _ _ (pv 1) (@pa_nil _) star_name) star_sub) (by rfl) (by decide) (by rfl) (by rfl)) (@pe_one _ _ _ _ _ (@pe_fn _ _ _ _ _ _ _ _ _ _ _ _ _ _ T.is_met (ok_is_met T) hr (by omega) (@pa_cons _ _ _ _ _ (@pe_ix _ _ _ _ _ _ _ ix_tup (pv 0) (@pe_int _ _ _ _) (fun _ _ => rfl)) (@pa_cons _ _ _ _ _ (pv 1) (@pa_nil _) star_name) star_sub) (by rfl) (by decide) (by rfl) (by rfl)))))))))))), ?_⟩
    have RC : ∀ {u' : Wi} {y : V} {H1 : Hp} {σ : L2.St} {t : TA}, DAt hd H y u'.d → u'.deep ≤ n → Same H H1 → PuA t σ H1 [y, .ref d] → Gv (tCall (sp_is_met n) [] E0 t) σ H1 (fun v H' => v = .bl (ev rs u') ∧ Same H H') := fun {u' y H1 σ t} hy du s1 ha => gv_call ha fun Q q => ⟨hd, y, u', d, rs, rfl, hy.same s1, du, s1 _ _ hd', hz, fun H' s => q _ _ ⟨rfl, s1.trans s⟩⟩
    cases u with
    | inn x =>
      cases hv with
      | tup h td =>
      cases td with
      | cons h0 td =>
      cases h0
      cases td with
      | cons h1 td =>
      cases h1
      cases td
      refine st_set (pu_ixT (pu_v rfl) pu_c (SqT.of h) at0) ?_
      refine st_ifN (pt_t (pu_eqStr (pu_v rfl) pu_c)) (fun _ => ?_) (fun e => absurd e (by decide +kernel))
      exact st_ret (pu_neI (pu_getR (pu_v rfl) hd' (pu_ixT (pu_v rfl) pu_c (SqT.of h) at1) pu_c) pu_c) (k _ Same.rfl')
    | rnd x z =>
      cases hv with
      | tup h td =>
      cases td with
      | cons h0 td =>
      cases h0
      cases td with
      | cons h1 td =>
      cases h1
      cases td with
      | cons h2 td =>
      cases h2
      cases td
      refine st_set (pu_ixT (pu_v rfl) pu_c (SqT.of h) at0) ?_
      refine st_ifN (pt_t (pu_eqStr (pu_v rfl) pu_c)) (fun e => absurd e (by decide +kernel)) (fun _ => ?_)
      refine st_ifN (pt_t (pu_eqStr (pu_v rfl) pu_c)) (fun _ => ?_) (fun e => absurd e (by decide +kernel))
      exact st_ret (pu_eqI (pu_getR (pu_v rfl) hd' (pu_ixT (pu_v rfl) pu_c (SqT.of h) at1) pu_c) (pu_ixT (pu_v rfl) pu_c (SqT.of h) at2)) (k _ Same.rfl')
    | lst z =>
      cases hv with
      | tup h td =>
      cases td with
      | cons h0 td =>
      cases h0
      cases td with
      | cons h1 td =>
      cases h1
      cases td
      refine st_set (pu_ixT (pu_v rfl) pu_c (SqT.of h) at0) ?_
      refine st_ifN (pt_t (pu_eqStr (pu_v rfl) pu_c)) (fun e => absurd e (by decide +kernel)) (fun _ => ?_)
      refine st_ifN (pt_t (pu_eqStr (pu_v rfl) pu_c)) (fun e => absurd e (by decide +kernel)) (fun _ => ?_)
      refine st_ifN (pt_t (pu_eqStr (pu_v rfl) pu_c)) (fun _ => ?_) (fun e => absurd e (by decide +kernel))
      refine st_retG (R := fun v H' => v = .bl (decide (z ≤ ((cntR rs : Nat) : Int))) ∧ Same H H') (gv_opG (R1 := fun v H' => v = .int ((cntR rs : Nat) : Int) ∧ Same H H') (R2 := fun x y H' => x = .int ((cntR rs : Nat) : Int) ∧ y = .int z ∧ Same H H') (fun Q q => ?_) (fun x H1 e => ?_) ?_) fun _ H' e => by obtain ⟨rfl, s⟩ := e; exact k H' s
      · refine ga_cons (gv_valsR (rs := rs) (te := tVar 0) (tl := tVar 1) (tc := tTest (tOp rNe (tVar 0) (tC (.int 0)))) (fr := fun _ => [none]) rfl (pu_v rfl) hd' hz (fun n H' => pt_t (pu_neI (pu_v rfl) pu_c)) (fun n H' => pu_v rfl)) (fun _ _ _ => ga_nil) _ ?_
        rintro _ H1 ⟨_, _, _, rfl, ⟨s1, D, xs, rfl, hD, hl⟩, rfl, rfl⟩
        exact ⟨D, xs, rfl, .inl (SqL.of hD), q _ _ ⟨by rw [hl], s1⟩⟩
      · obtain ⟨rfl, s1⟩ := e
        exact Pu.gv' (pu_ixT (pu_v rfl) pu_c (SqT.of (s1 _ _ h)) at1) ⟨rfl, rfl, s1⟩
      · rintro _ _ H2 ⟨rfl, rfl, s2⟩ Q q
        exact ⟨_, _, rfl, rfl, q _ _ ⟨rfl, s2⟩⟩
    | no u =>
      have du : u.deep ≤ n := by simp only [Wi.deep] at dp; omega
      cases hv with
      | tup h td =>
      cases td with
      | cons h0 td =>
      cases h0
      cases td with
      | cons h1 td =>
      cases td
      refine st_set (pu_ixT (pu_v rfl) pu_c (SqT.of h) at0) ?_
      refine st_ifN (pt_t (pu_eqStr (pu_v rfl) pu_c)) (fun e => absurd e (by decide +kernel)) (fun _ => ?_)
      refine st_ifN (pt_t (pu_eqStr (pu_v rfl) pu_c)) (fun e => absurd e (by decide +kernel)) (fun _ => ?_)
      refine st_ifN (pt_t (pu_eqStr (pu_v rfl) pu_c)) (fun e => absurd e (by decide +kernel)) (fun _ => ?_)
      refine st_ifN (pt_t (pu_eqStr (pu_v rfl) pu_c)) (fun _ => ?_) (fun e => absurd e (by decide +kernel))
      refine st_retG (R := fun v H' => v = .bl (!ev rs u) ∧ Same H H') (fun Q q => RC h1 du Same.rfl' (pa_c (pu_ixT (pu_v rfl) pu_c (SqT.of h) at1) (pa_c (pu_v rfl) pa_n)) _ fun v' H' e => ?_) fun _ H' e => by obtain ⟨rfl, s⟩ := e; exact k H' s
      obtain ⟨rfl, s'⟩ := e
      exact ⟨_, rfl, q _ _ ⟨rfl, s'⟩⟩
    | both a b =>
      have da : a.deep ≤ n := by simp only [Wi.deep] at dp; omega
      have db : b.deep ≤ n := by simp only [Wi.deep] at dp; omega
      cases hv with
      | tup h td =>
      cases td with
      | cons h0 td =>
      cases h0
      cases td with
      | cons h1 td =>
      cases td with
      | cons h2 td =>
      cases td
      refine st_set (pu_ixT (pu_v rfl) pu_c (SqT.of h) at0) ?_
      refine st_ifN (pt_t (pu_eqStr (pu_v rfl) pu_c)) (fun e => absurd e (by decide +kernel)) (fun _ => ?_)
      refine st_ifN (pt_t (pu_eqStr (pu_v rfl) pu_c)) (fun e => absurd e (by decide +kernel)) (fun _ => ?_)
      refine st_ifN (pt_t (pu_eqStr (pu_v rfl) pu_c)) (fun e => absurd e (by decide +kernel)) (fun _ => ?_)
      refine st_ifN (pt_t (pu_eqStr (pu_v rfl) pu_c)) (fun e => absurd e (by decide +kernel)) (fun _ => ?_)
      refine st_ifN (pt_t (pu_eqStr (pu_v rfl) pu_c)) (fun _ => ?_) (fun e => absurd e (by decide +kernel))
      refine st_retG (R := fun v H' => v = .bl (ev rs a && ev rs b) ∧ Same H H') (gv_andG (RC h1 da Same.rfl' (pa_c (pu_ixT (pu_v rfl) pu_c (SqT.of h) at1) (pa_c (pu_v rfl) pa_n))) ?_) fun _ H' e => by obtain ⟨rfl, s⟩ := e; exact k H' s
      rintro _ H1 ⟨rfl, s1⟩
      refine ⟨_, rfl, fun e => ?_, fun e => ⟨by rw [e]; rfl, s1⟩⟩
      rw [e]
      exact RC h2 db s1 (pa_c (pu_ixT (pu_v rfl) pu_c (SqT.of (s1 _ _ h)) at2) (pa_c (pu_v rfl) pa_n))
    | any a b =>
      have da : a.deep ≤ n := by simp only [Wi.deep] at dp; omega
      have db : b.deep ≤ n := by simp only [Wi.deep] at dp; omega
      cases hv with
      | tup h td =>
      cases td with
      | cons h0 td =>
      cases h0
      cases td with
      | cons h1 td =>
      cases td with
      | cons h2 td =>
      cases td
      refine st_set (pu_ixT (pu_v rfl) pu_c (SqT.of h) at0) ?_
      refine st_ifN (pt_t (pu_eqStr (pu_v rfl) pu_c)) (fun e => absurd e (by decide +kernel)) (fun _ => ?_)
      refine st_ifN (pt_t (pu_eqStr (pu_v rfl) pu_c)) (fun e => absurd e (by decide +kernel)) (fun _ => ?_)
      refine st_ifN (pt_t (pu_eqStr (pu_v rfl) pu_c)) (fun e => absurd e (by decide +kernel)) (fun _ => ?_)
      refine st_ifN (pt_t (pu_eqStr (pu_v rfl) pu_c)) (fun e => absurd e (by decide +kernel)) (fun _ => ?_)
      refine st_ifN (pt_t (pu_eqStr (pu_v rfl) pu_c)) (fun e => absurd e (by decide +kernel)) (fun _ => ?_)
      refine st_retG (R := fun v H' => v = .bl (ev rs a || ev rs b) ∧ Same H H') (gv_orG (RC h1 da Same.rfl' (pa_c (pu_ixT (pu_v rfl) pu_c (SqT.of h) at1) (pa_c (pu_v rfl) pa_n))) ?_) fun _ H' e => by obtain ⟨rfl, s⟩ := e; exact k H' s
      rintro _ H1 ⟨rfl, s1⟩
      refine ⟨_, rfl, fun e => ?_, fun e => ⟨by rw [e]; rfl, s1⟩⟩
      rw [e]
      exact RC h2 db s1 (pa_c (pu_ixT (pu_v rfl) pu_c (SqT.of (s1 _ _ h)) at2) (pa_c (pu_v rfl) pa_n))
theorem okr_met (T : Txt K mg t w) : ∀ n : Nat, FnOk P w K mg base CX0 (5 + n) t.f_is_met t.d_is_met ["wish", "rounds"] (sp_is_met n)
  | 0 => ((T.is_met.F.okNo sc_is_met).mono (by decide : 1 ≤ 5)).imp fun vs H Q E h => by
    obtain ⟨hd, v, u, d, rs, _, _, dp, _⟩ := h
    have := u.deep_pos
    omega
  | n + 1 => (okA_met T (okr_met T n) (by omega)).mono (by omega)
theorem ok_is_met (T : Txt K mg t w) : FnOk P w K mg base CX0 11 t.f_is_met t.d_is_met ["wish", "rounds"] (sp_is_met 6) := okr_met T 6
def sp_holds : Sp := fun vs H Q _ => ∃ hd v u d rs, vs = [v, .ref d] ∧ DAt hd H v (Wi.d u) ∧ u.names ∧ u.deep ≤ 6 ∧ H d = some (.dK (kvR rs)) ∧ rs.length ≤ 1000 ∧ ∀ H', Same H H' → Q (.bl (ev rs u)) H'
theorem sc_holds : FnScope ["wish", "rounds"] ["wish", "rounds"] (defScope s_holds) := ⟨rfl, rfl, rfl, by decide +kernel, rfl, by decide +kernel, by decide +kernel⟩
theorem ok_holds (T : Txt K mg t w) : FnOk P w K mg base CX0 21 t.f_holds t.d_holds ["wish", "rounds"] sp_holds := by
  refine T.holds.F.ok (k := 20) sc_holds (fun vs H Q E h => ?_) (fun cdv A outer s H vs Q E hr h => ?_)
  · obtain ⟨hd, v, u, d, rs, rfl, _⟩ := h
    rfl
  · obtain ⟨hd, v, u, d, rs, rfl, hv, nn, dp, hd', hz, k⟩ := h
    refine ⟨_, (@pss_cons _ _ _ _ _ (@ps_expr _ _ _ _ (@pe_fn _ _ _ _ _ _ _ _ _ _ _ _ _ _ T.check_wish (ok_check_wish T) hr (by decide) (@pa_cons _ _ _ _ _ (pv 0) (@pa_nil _) star_name) (by rfl) (by decide) (by rfl) (by rfl)) (by rfl)) (@pss_one _ _ _ (@ps_ret _ _ _ _ (@pe_fn _ _ _ _ _ _ _ _ _ _ _ _ _ _ T.is_met (ok_is_met T) hr (by decide) (@pa_cons _ _ _ _ _ (pv 0) (@pa_cons _ _ _ _ _ (pv 1) (@pa_nil _) star_name) star_name) (by rfl) (by decide) (by rfl) (by rfl))))), ?_⟩
    refine st_exprG (R := fun _ H' => Same H H') (gv_call (pa_c (pu_v rfl) pa_n) fun Q q => ⟨hd, v, u.d, rfl, hv, by rw [u.isW_d 6 nn, decide_eq_true dp], fun H' s => q _ _ s⟩) ?_
    intro _ H1 s1
    exact st_retG (R := fun v H' => v = .bl (ev rs u) ∧ Same H H') (gv_call (pa_c (pu_v rfl) (pa_c (pu_v rfl) pa_n)) fun Q q => ⟨hd, v, u, d, rs, rfl, hv.same s1, dp, s1 _ _ hd', hz, fun H' s => q _ _ ⟨rfl, s1.trans s⟩⟩) fun _ H' e => by obtain ⟨rfl, s⟩ := e; exact k H' s
def sp_l_hand (K : PySem.W.Frag) : Sp := fun vs H Q _ => ∃ (a : Addr) (ns : List Int), vs = [.ref a] ∧ SqL K H a (ns.map V.int) ∧ ∀ hd sc H', Same H H' → H hd = none → HandAt H' hd sc → Q (.ref hd) H'
theorem sc_l_hand : FnScope ["_law_script"] ["_law_script"] (defScope s_l_hand) := ⟨rfl, rfl, rfl, by decide +kernel, rfl, by decide +kernel, by decide +kernel⟩
theorem ok_l_hand (T : Txt K mg t w) : FnOk P w K mg base CX0 1 t.f_l_hand t.d_l_hand ["_law_script"] (sp_l_hand K) := by
  refine T.l_hand.F.ok (k := 0) sc_l_hand (fun vs H Q E h => ?_) (fun cdv A outer s H vs Q E hr h => ?_)
  · obtain ⟨a, ns, rfl, _⟩ := h
    rfl
  · obtain ⟨a, ns, rfl, hS, k⟩ := h
    refine ⟨_, (@pss_one _ _ _ (@ps_ret _ _ _ _ (@pe_lst _ _ _ _ (@pa_cons _ _ _ _ _ (@pe_callTy _ _ _ _ _ _ _ _ _ call_list_of (by rfl) T.b_list PyProof.Rows.boot_list (@pa_cons _ _ _ _ _ (@pe_slice _ _ _ _ _ _ _ _ _ _ sl_list (pv 0) (@po_none _) (@po_some _ _ _ (@pe_int _ _ _ _))) (@pa_nil _) star_sub) (by decide) (by decide) (by rfl) (by rfl)) (@pa_cons _ _ _ _ _ (@pe_int _ _ _ _) (@pa_cons _ _ _ _ _ (@pe_int _ _ _ _) (@pa_cons _ _ _ _ _ (@pe_int _ _ _ _) (@pa_cons _ _ _ _ _ (@pe_int _ _ _ _) (@pa_cons _ _ _ _ _ (@pe_int _ _ _ _) (@pa_nil _) star_con) star_con) star_con) star_con) star_con) star_call)))), ?_⟩
    refine ⟨_, rfl, 63, rfl, a, _, rfl, hS, fun p hp => ?_⟩
    refine ⟨p, _, rfl, .inl (SqL.of upd_same), fun l hl => ⟨by show 6 ≤ sizeLine; decide, fun hd hh => ?_⟩⟩
    have s1 : Same H (upd H p (.lst (cutV (ns.map V.int) none (some 63)))) := Same.upd hp
    have s2 : Same (upd H p (.lst (cutV (ns.map V.int) none (some 63)))) _ := Same.upd (o := .lst (cutV (ns.map V.int) none (some 63))) hl
    have s3 := s1.trans (s2.trans (Same.upd (o := .lst [.ref l, .int 0, .int 0, .int 0, .int 20011, .int 40009]) hh))
    refine k hd l _ s3 (s1.free (s2.free hh)) ⟨(ns.drop (HT.sIx (ns.map V.int).length 0 none)).take (HT.sIx (ns.map V.int).length (ns.map V.int).length (some 63) - HT.sIx (ns.map V.int).length 0 none), 0, 0, 0, 20011, 40009, upd_same, ?_, by decide⟩
    rw [upd_ne (ne_of_none upd_same hh), upd_same, List.map_take, List.map_drop]
    rfl
def sp_l_next : Sp := fun vs H Q _ => ∃ hd sc, vs = [.ref hd] ∧ HandAt H hd sc ∧ ∀ (n : Int) H', HandAt H' hd sc → SameB hd H H' → Q (.int n) H'
theorem sc_l_next : FnScope ["_law_hand_here"] ["_law_hand_here"] (defScope s_l_next) := ⟨rfl, rfl, rfl, by decide +kernel, rfl, by decide +kernel, by decide +kernel⟩
theorem ok_l_next (T : Txt K mg t w) : FnOk P w K mg base CX0 1 t.f_l_next t.d_l_next ["_law_hand_here"] sp_l_next := by
  refine T.l_next.F.ok (k := 0) sc_l_next (fun vs H Q E h => ?_) (fun cdv A outer s H vs Q E hr h => ?_)
  · obtain ⟨hd, sc, rfl, _⟩ := h
    rfl
  · obtain ⟨hd, sc, rfl, ⟨ns, i, b, c, p, q, h1, h2, h0⟩, k⟩ := h
    have nsc := HandAt.ne h1 h2
    refine ⟨_, (@pss_cons _ _ _ _ _ (@ps_asg _ _ _ _ _ _ (@pe_op _ _ _ _ _ _ _ _ op_modN (@pe_op _ _ _ _ _ _ _ _ op_mulB (@pe_ix _ _ _ _ _ _ _ ix_list (pv 0) (@pe_int _ _ _ _) (fun _ _ => rfl)) (@pe_int _ _ _ _)) (@pe_int _ _ _ _)) (@pg_sub _ _ _ _ _ _ _ (pv 0) (@pe_int _ _ _ _) set_list (by intro _; rfl)) (by rfl) (by rfl) (by rfl)) (@pss_cons _ _ _ _ _ (@ps_asg _ _ _ _ _ _ (@pe_op _ _ _ _ _ _ _ _ op_modN (@pe_op _ _ _ _ _ _ _ _ op_mulB (@pe_ix _ _ _ _ _ _ _ ix_list (pv 0) (@pe_int _ _ _ _) (fun _ _ => rfl)) (@pe_int _ _ _ _)) (@pe_int _ _ _ _)) (@pg_sub _ _ _ _ _ _ _ (pv 0) (@pe_int _ _ _ _) set_list (by intro _; rfl)) (by rfl) (by rfl) (by rfl)) (@pss_one _ _ _ (@ps_ret _ _ _ _ (@pe_op _ _ _ _ _ _ _ _ op_add (@pe_ix _ _ _ _ _ _ _ ix_list (pv 0) (@pe_int _ _ _ _) (fun _ _ => rfl)) (@pe_ix _ _ _ _ _ _ _ ix_list (pv 0) (@pe_int _ _ _ _) (fun _ _ => rfl))))))), ?_⟩
    refine st_put (pu_mod (pu_mul (pu_ixL (pu_v rfl) pu_c (SqL.of h1) rfl) pu_c (IntMulOk.of_right (by decide))) pu_c (by decide)) (pu_v rfl) pu_c h1 rfl ?_
    refine st_put (pu_mod (pu_mul (pu_ixL (pu_v rfl) pu_c (SqL.of upd_same) rfl) pu_c (IntMulOk.of_right (by decide))) pu_c (by decide)) (pu_v rfl) pu_c upd_same rfl ?_
    refine st_ret (pu_add (pu_ixL (pu_v rfl) pu_c (SqL.of upd_same) rfl) (pu_ixL (pu_v rfl) pu_c (SqL.of upd_same) rfl)) ?_
    exact k _ _ ⟨ns, i, b, c, _, _, upd_same, by rw [upd_ne nsc, upd_ne nsc]; exact h2, h0⟩ (SameB.upd.trans SameB.upd)
def sp_l_take : Sp := fun vs H Q _ => ∃ hd sc, vs = [.ref hd] ∧ HandAt H hd sc ∧ ∀ H', HandAt H' hd sc → SameB hd H H' → Q .non H'
theorem sc_l_take : FnScope ["_law_hand_here", "_law_cell"] ["_law_hand_here"] (defScope s_l_take) := ⟨rfl, rfl, rfl, by decide +kernel, rfl, by decide +kernel, by decide +kernel⟩
theorem ok_l_take (T : Txt K mg t w) : FnOk P w K mg base CX0 2 t.f_l_take t.d_l_take ["_law_hand_here"] sp_l_take := by
  refine T.l_take.F.ok (k := 1) sc_l_take (fun vs H Q E h => ?_) (fun cdv A outer s H vs Q E hr h => ?_)
  · obtain ⟨hd, sc, rfl, _⟩ := h
    rfl
  · obtain ⟨hd, sc, rfl, ⟨ns, i, b, c, p, q, h1, h2, h0⟩, k⟩ := h
    have nsc := HandAt.ne h1 h2
    refine ⟨_, (@pss_cons _ _ _ _ _ (@ps_set _ _ 1 _ _ _ _ sc_l_take.nd rfl (Or.inl rfl) (@pe_int _ _ _ _) (by rfl) (by first | exact .inl rfl | exact .inr rfl | assumption)) (@pss_cons _ _ _ _ _ (@ps_if _ _ _ _ _ _ _ _ (@pt_cmpR _ _ _ _ _ _ _ _ op_lt (@pe_ix _ _ _ _ _ _ _ ix_list (pv 0) (@pe_int _ _ _ _) (fun _ _ => rfl)) (@pe_callB _ _ _ _ _ _ _ _ _ call_len_seq (by rfl) T.b_len PySem.boot_len (@pa_cons _ _ _ _ _ (@pe_ix _ _ _ _ _ _ _ ix_list (pv 0) (@pe_int _ _ _ _) (fun _ _ => rfl)) (@pa_nil _) star_sub) (by decide) (by decide) (by rfl) (by rfl)) (nomark _)) (@pss_one _ _ _ (@ps_set _ _ 1 _ _ _ _ sc_l_take.nd rfl (Or.inl rfl) (@pe_callB _ _ _ _ _ _ _ _ _ call_abs (by rfl) T.b_abs PyProof.Rows.boot_abs (@pa_cons _ _ _ _ _ (@pe_ix _ _ _ _ _ _ _ ix_list (@pe_ix _ _ _ _ _ _ _ ix_list (pv 0) (@pe_int _ _ _ _) (fun _ _ => rfl)) (@pe_ix _ _ _ _ _ _ _ ix_list (pv 0) (@pe_int _ _ _ _) (fun _ _ => rfl)) (fun _ _ => rfl)) (@pa_nil _) star_sub) (by decide) (by decide) (by rfl) (by rfl)) (by rfl) (by first | exact .inl rfl | exact .inr rfl | assumption))) (@pss_nil _)) (@pss_cons _ _ _ _ _ (@ps_augS _ _ _ _ _ _ _ _ _ _ _ _ _ (pv 0) (@pe_int _ _ _ _) get_list (@pe_int _ _ _ _) ip_add set_list (by intros; rfl)) (@pss_cons _ _ _ _ _ (@ps_if _ _ _ _ _ _ _ _ (@pt_cmpR _ _ _ _ _ _ _ _ op_ge (pv 1) (@pe_op _ _ _ _ _ _ _ _ op_pow (@pe_int _ _ _ _) (@pe_int _ _ _ _)) (nomark _)) (@pss_one _ _ _ (@ps_asg _ _ _ _ _ _ (pv 1) (@pg_sub _ _ _ _ _ _ _ (pv 0) (@pe_int _ _ _ _) set_list (by intro _; rfl)) (by rfl) (by rfl) (by rfl))) (@pss_one _ _ _ (@ps_asg _ _ _ _ _ _ (@pe_int _ _ _ _) (@pg_sub _ _ _ _ _ _ _ (pv 0) (@pe_int _ _ _ _) set_list (by intro _; rfl)) (by rfl) (by rfl) (by rfl)))) (@pss_cons _ _ _ _ _ (@ps_asg _ _ _ _ _ _ (@pe_op _ _ _ _ _ _ _ _ op_add (@pe_op _ _ _ _ _ _ _ _ op_modN (@pe_op _ _ _ _ _ _ _ _ op_add (@pe_ix _ _ _ _ _ _ _ ix_list (pv 0) (@pe_int _ _ _ _) (fun _ _ => rfl)) (@pe_op _ _ _ _ _ _ _ _ op_modN (pv 1) (@pe_int _ _ _ _))) (@pe_int _ _ _ _)) (@pe_int _ _ _ _)) (@pg_sub _ _ _ _ _ _ _ (pv 0) (@pe_int _ _ _ _) set_list (by intro _; rfl)) (by rfl) (by rfl) (by rfl)) (@pss_cons _ _ _ _ _ (@ps_asg _ _ _ _ _ _ (@pe_op _ _ _ _ _ _ _ _ op_add (@pe_op _ _ _ _ _ _ _ _ op_modN (@pe_op _ _ _ _ _ _ _ _ op_add (@pe_op _ _ _ _ _ _ _ _ op_mulB (@pe_ix _ _ _ _ _ _ _ ix_list (pv 0) (@pe_int _ _ _ _) (fun _ _ => rfl)) (@pe_int _ _ _ _)) (@pe_op _ _ _ _ _ _ _ _ op_modN (pv 1) (@pe_int _ _ _ _))) (@pe_int _ _ _ _)) (@pe_int _ _ _ _)) (@pg_sub _ _ _ _ _ _ _ (pv 0) (@pe_int _ _ _ _) set_list (by intro _; rfl)) (by rfl) (by rfl) (by rfl)) (@pss_cons _ _ _ _ _ (@ps_expr _ _ _ _ (@pe_fn _ _ _ _ _ _ _ _ _ _ _ _ _ _ T.l_next (ok_l_next T) hr (by decide) (@pa_cons _ _ _ _ _ (pv 0) (@pa_nil _) star_name) (by rfl) (by decide) (by rfl) (by rfl)) (by rfl)) (@pss_one _ _ _ (@ps_expr _ _ _ _ (@pe_fn _ _ _ _ _ _ _ _ _ _ _ _ _ _ T.l_next (ok_l_next T) hr (by decide) (@pa_cons _ _ _ _ _ (pv 0) (@pa_nil _) star_name) (by rfl) (by decide) (by rfl) (by rfl)) (by rfl)))))))))), ?_⟩
    refine st_set pu_c ?_
    refine st_ifSet (R := fun v H' => H = H' ∧ ∃ cell : Int, v = .int cell) (v0 := .int 0) (pt_t (pu_lt (pu_ixL (pu_v rfl) pu_c (SqL.of h1) rfl) (pu_lenL (pa_c (pu_ixL (pu_v rfl) pu_c (SqL.of h1) rfl) pa_n) (SqL.of h2)))) (fun e => ?_) rfl (fun _ => ⟨rfl, 0, rfl⟩) ?_
    · have e' : i < ((ns.map V.int).length : Int) := by simpa using e
      rw [List.length_map] at e'
      obtain ⟨m, hm⟩ : ∃ m, ns[i.toNat]? = some m := ⟨_, List.getElem?_eq_getElem (by omega)⟩
      have hat : atI (ns.map V.int) i = some (.int m) := by
        have := atI_nat (xs := ns.map V.int) (j := i.toNat) (v := .int m) (by rw [List.getElem?_map, hm]; rfl)
        rwa [show ((i.toNat : Nat) : Int) = i by omega] at this
      exact (pu_abs (pa_c (pu_ixL (pu_ixL (pu_v rfl) pu_c (SqL.of h1) rfl) (pu_ixL (pu_v rfl) pu_c (SqL.of h1) rfl) (SqL.of h2) hat) pa_n)).gv' ⟨rfl, _, rfl⟩
    rintro v H' ⟨rfl, cell, rfl⟩
    refine st_augI (pu_v rfl) pu_c (by decide) h1 rfl pu_c rfl ?_
    refine st_if (pt_t (pu_ge (pu_v rfl) (pu_pow pu_c pu_c ⟨by decide, by decide, by decide⟩))) (fun _ => st_put1 (pu_v rfl) (pu_v rfl) pu_c upd_same rfl ?_) (fun _ => st_put1 pu_c (pu_v rfl) pu_c upd_same rfl ?_)
    all_goals
      refine st_put (pu_add (pu_mod (pu_add (pu_ixL (pu_v rfl) pu_c (SqL.of upd_same) rfl) (pu_mod (pu_v rfl) pu_c (by decide))) pu_c (by decide)) pu_c) (pu_v rfl) pu_c upd_same rfl ?_
      refine st_put (pu_add (pu_mod (pu_add (pu_mul (pu_ixL (pu_v rfl) pu_c (SqL.of upd_same) rfl) pu_c (IntMulOk.of_right (by decide))) (pu_mod (pu_v rfl) pu_c (by decide))) pu_c (by decide)) pu_c) (pu_v rfl) pu_c upd_same rfl ?_
      refine st_exprG (R := fun _ H' => HandAt H' hd sc ∧ SameB hd H H') (gv_call (pa_c (pu_v rfl) pa_n) fun Q f => ⟨hd, sc, rfl, ⟨ns, _, _, _, _, _, upd_same, by rw [upd_ne nsc, upd_ne nsc, upd_ne nsc, upd_ne nsc]; exact h2, (by omega : 0 ≤ i + 1)⟩, fun n H' a s => f _ _ ⟨a, ((SameB.upd.trans SameB.upd).trans (SameB.upd.trans SameB.upd)).trans s⟩⟩) ?_
      rintro _ H1 ⟨a1, s1⟩
      refine st_exprG1 (R := fun _ H' => HandAt H' hd sc ∧ SameB hd H H') (gv_call (pa_c (pu_v rfl) pa_n) fun Q f => ⟨hd, sc, rfl, a1, fun n H' a s => f _ _ ⟨a, s1.trans s⟩⟩) ?_
      rintro _ H2 ⟨a2, s2⟩
      exact k _ a2 s2
def sp_l_draw : Sp := fun vs H Q _ => ∃ hd sc m, vs = [.ref hd, .int m] ∧ HandAt H hd sc ∧ 0 < m ∧ Bd 9000 m ∧ ∀ (n : Int) H', 0 ≤ n → n < m → HandAt H' hd sc → SameB hd H H' → Q (.int n) H'
/-- draw(hand, m), m known -/
theorem gv_draw {σ : L2.St} {H : Hp} {hd sc : Addr} {t : TA} {m : Int} (hh : HandAt H hd sc) (ha : PuA t σ H [.ref hd, .int m]) (h0 : 0 < m) (hb : Bd 9000 m) : Gv (tCall sp_l_draw [] E0 t) σ H (fun v H' => (∃ n : Int, v = .int n ∧ 0 ≤ n ∧ n < m) ∧ HandAt H' hd sc ∧ SameB hd H H') :=
  gv_call ha fun Q f => ⟨hd, sc, m, rfl, hh, h0, hb, fun n H' z0 z1 a s => f _ _ ⟨⟨n, rfl, z0, z1⟩, a, s⟩⟩
theorem sc_l_draw : FnScope ["_law_hand_here", "_law_many", "_law_got", "_law_value", "_law_size"] ["_law_hand_here", "_law_many"] (defScope s_l_draw) := ⟨rfl, rfl, rfl, by decide +kernel, rfl, by decide +kernel, by decide +kernel⟩
theorem ok_l_draw (T : Txt K mg t w) : FnOk P w K mg base CX0 3 t.f_l_draw t.d_l_draw ["_law_hand_here", "_law_many"] sp_l_draw := by
  refine T.l_draw.F.ok (k := 2) sc_l_draw (fun vs H Q E h => ?_) (fun cdv A outer s H vs Q E hr h => ?_)
  · obtain ⟨hd, sc, m, rfl, _⟩ := h
    rfl
  · obtain ⟨hd, sc, m, rfl, hh, hm, hB, k⟩ := h
    refine ⟨_, (@pss_cons _ _ _ _ _ (@ps_if _ _ _ _ _ _ _ _ (PW.pt (@pw_and _ _ _ _ _ _ _ (@pt_cmpR _ _ _ _ _ _ _ _ op_eq (@pe_ix _ _ _ _ _ _ _ ix_list (pv 0) (@pe_int _ _ _ _) (fun _ _ => rfl)) (@pe_int _ _ _ _) (nomark _)) (@pw_and1 _ _ _ _ (@pt_cmpR _ _ _ _ _ _ _ _ op_eq (@pe_ix _ _ _ _ _ _ _ ix_list (pv 0) (@pe_int _ _ _ _) (fun _ _ => rfl)) (@pe_int _ _ _ _) (nomark _))))) (@pss_one _ _ _ (@ps_expr _ _ _ _ (@pe_fn _ _ _ _ _ _ _ _ _ _ _ _ _ _ T.l_take (ok_l_take T) hr (by decide) (@pa_cons _ _ _ _ _ (pv 0) (@pa_nil _) star_name) (by rfl) (by decide) (by rfl) (by rfl)) (by rfl))) (@pss_nil _)) (@pss_cons _ _ _ _ _ (@ps_if _ _ _ _ _ _ _ _ (@pt_cmpR _ _ _ _ _ _ _ _ op_gt (@pe_ix _ _ _ _ _ _ _ ix_list (pv 0) (@pe_int _ _ _ _) (fun _ _ => rfl)) (@pe_int _ _ _ _) (nomark _)) (@pss_cons _ _ _ _ _ (@ps_set _ _ 2 _ _ _ _ sc_l_draw.nd rfl (Or.inl rfl) (@pe_op _ _ _ _ _ _ _ _ op_modN (@pe_ix _ _ _ _ _ _ _ ix_list (pv 0) (@pe_int _ _ _ _) (fun _ _ => rfl)) (pv 1)) (by rfl) (by first | exact .inl rfl | exact .inr rfl | assumption)) (@pss_cons _ _ _ _ _ (@ps_asg _ _ _ _ _ _ (@pe_op _ _ _ _ _ _ _ _ op_fdivB (@pe_ix _ _ _ _ _ _ _ ix_list (pv 0) (@pe_int _ _ _ _) (fun _ _ => rfl)) (pv 1)) (@pg_sub _ _ _ _ _ _ _ (pv 0) (@pe_int _ _ _ _) set_list (by intro _; rfl)) (by rfl) (by rfl) (by rfl)) (@pss_one _ _ _ (@ps_ret _ _ _ _ (pv 2))))) (@pss_nil _)) (@pss_cons _ _ _ _ _ (@ps_augS _ _ _ _ _ _ _ _ _ _ _ _ _ (pv 0) (@pe_int _ _ _ _) get_list (@pe_int _ _ _ _) ip_sub set_list (by intros; rfl)) (@pss_cons _ _ _ _ _ (@ps_set _ _ 3 _ _ _ _ sc_l_draw.nd rfl (Or.inl rfl) (@pe_fn _ _ _ _ _ _ _ _ _ _ _ _ _ _ T.l_next (ok_l_next T) hr (by decide) (@pa_cons _ _ _ _ _ (pv 0) (@pa_nil _) star_name) (by rfl) (by decide) (by rfl) (by rfl)) (by rfl) (by first | exact .inl rfl | exact .inr rfl | assumption)) (@pss_cons _ _ _ _ _ (@ps_set _ _ 4 _ _ _ _ sc_l_draw.nd rfl (Or.inl rfl) (@pe_int _ _ _ _) (by rfl) (by first | exact .inl rfl | exact .inr rfl | assumption)) (@pss_cons _ _ _ _ _ (@ps_while _ _ _ _ _ _ PassesOwn.never (@pt_cmpR _ _ _ _ _ _ _ _ op_lt (pv 4) (pv 1) (nomark _)) (@pss_cons _ _ _ _ _ (@ps_set _ _ 3 _ _ _ _ sc_l_draw.nd rfl (Or.inl rfl) (@pe_op _ _ _ _ _ _ _ _ op_add (@pe_op _ _ _ _ _ _ _ _ op_mulB (pv 3) (@pe_int _ _ _ _)) (@pe_fn _ _ _ _ _ _ _ _ _ _ _ _ _ _ T.l_next (ok_l_next T) hr (by decide) (@pa_cons _ _ _ _ _ (pv 0) (@pa_nil _) star_name) (by rfl) (by decide) (by rfl) (by rfl))) (by rfl) (by first | exact .inl rfl | exact .inr rfl | assumption)) (@pss_one _ _ _ (@ps_set _ _ 4 _ _ _ _ sc_l_draw.nd rfl (Or.inl rfl) (@pe_op _ _ _ _ _ _ _ _ op_mulB (pv 4) (@pe_int _ _ _ _)) (by rfl) (by first | exact .inl rfl | exact .inr rfl | assumption))))) (@pss_one _ _ _ (@ps_ret _ _ _ _ (@pe_op _ _ _ _ _ _ _ _ op_modN (pv 3) (pv 1)))))))))), ?_⟩
    refine (show ∀ (H1 : Hp) (rest : TS) (D : Ends) (σ : L2.St) (tc : TT) (te : TE), (∃ b, PuT tc σ H b ∧ (b = true → Gv te σ H (fun _ H' => HandAt H' hd sc ∧ SameB hd H H'))) → (∀ H', HandAt H' hd sc → SameB hd H H' → rest D σ H') → tSeq (tIfS tc (tDrop te) tNext) rest D σ H from fun H1 rest D σ tc te ⟨b, hc, he⟩ q => st_if hc (fun e => st_exprG1 (he e) fun v H' r => q H' r.1 r.2) fun _ => q H hh (SameB.refl _ _)) H _ _ _ _ _ ?_ ?_
    · obtain ⟨ns, i, b, c, p, q, h1, h2, h0⟩ := id hh
      exact ⟨_, pt_and (pt_t (pu_eqI (pu_ixL (pu_v rfl) pu_c (SqL.of h1) rfl) pu_c)) fun _ => pt_t (pu_eqI (pu_ixL (pu_v rfl) pu_c (SqL.of h1) rfl) pu_c), fun _ => gv_call (pa_c (pu_v rfl) pa_n) fun Q f => ⟨hd, sc, rfl, hh, fun H' a s => f _ _ ⟨a, s⟩⟩⟩
    intro H1 hh1 s1
    obtain ⟨ns, i, b, c, p, q, h1, h2, h0⟩ := id hh1
    have nsc := HandAt.ne h1 h2
    refine st_if (pt_t (pu_gt (pu_ixL (pu_v rfl) pu_c (SqL.of h1) rfl) pu_c)) (fun _ => ?_) fun _ => ?_
    · refine st_set (pu_mod (pu_ixL (pu_v rfl) pu_c (SqL.of h1) rfl) (pu_v rfl) (by omega)) ?_
      refine st_put (pu_fdiv (pu_ixL (pu_v rfl) pu_c (SqL.of h1) rfl) (pu_v rfl) ⟨by omega, hB⟩) (pu_v rfl) pu_c h1 rfl ?_
      refine st_ret (pu_v rfl) ?_
      have hl := fmod_lt (x := b) hm
      exact k _ _ hl.1 hl.2 ⟨ns, i, _, c, p, q, upd_same, by rw [upd_ne nsc]; exact h2, h0⟩ (s1.trans SameB.upd)
    · refine st_augI (pu_v rfl) pu_c (by decide) h1 rfl pu_c rfl ?_
      have hh2 : HandAt (upd H1 hd (.lst [.ref sc, .int i, .int b, .int (c - 1), .int p, .int q])) hd sc := ⟨ns, i, b, c - 1, p, q, upd_same, by rw [upd_ne nsc]; exact h2, h0⟩
      refine st_setG (R := fun v H' => (∃ n : Int, v = .int n) ∧ HandAt H' hd sc ∧ SameB hd H H') (gv_call (pa_c (pu_v rfl) pa_n) fun Q f => ⟨hd, sc, rfl, hh2, fun n H' a s => f _ _ ⟨⟨n, rfl⟩, a, s1.trans (SameB.upd.trans s)⟩⟩) ?_
      rintro _ H3 ⟨⟨n, rfl⟩, hh3, s3⟩
      refine st_set pu_c ?_
      refine st_while (fun σ H' => HandAt H' hd sc ∧ SameB hd H H' ∧ ∃ (x y : Int) (r : Option V), σ = [some (.ref hd), some (.int m), r, some (.int x), some (.int y)] ∧ 0 < y) (fun σ _ => match σ with | [_, _, _, _, some (.int y)] => (m - y).toNat | _ => 0)
        ⟨hh3, s3, n, 4294967296, _, rfl, by decide⟩ ?_
      rintro σ H4 ⟨hh4, s4, x, y, r, rfl, hy⟩
      refine ⟨_, pt_t (pu_lt (pu_v rfl) (pu_v rfl)), fun e => ?_, fun e => ?_⟩
      · have e' : y < m := by simpa using e
        refine st_setG (R := fun v H' => (∃ n : Int, v = .int n) ∧ HandAt H' hd sc ∧ SameB hd H H') (fun Q f => pu_mul (pu_v rfl) pu_c (IntMulOk.of_right (by decide)) _ ?_) ?_
        · exact gv_call (sp := sp_l_next) (E := E0) (R := fun v H' => (∃ n : Int, v = .int n) ∧ HandAt H' hd sc ∧ SameB hd H H') (pa_c (pu_v rfl) pa_n) (fun Q f => ⟨hd, sc, rfl, hh4, fun n H' a s => f _ _ ⟨⟨n, rfl⟩, a, s4.trans s⟩⟩) _ fun v H' ⟨⟨n, e⟩, a, s⟩ => by
            subst e
            exact ⟨_, n, rfl, rfl, f _ _ ⟨⟨_, rfl⟩, a, s⟩⟩
        rintro _ H5 ⟨⟨z, rfl⟩, hh5, s5⟩
        refine st_set1 (pu_mul (pu_v rfl) pu_c (IntMulOk.of_right (by decide))) ?_
        exact ⟨⟨hh5, s5, z, y * 4294967296, r, rfl, by omega⟩, by show (m - y * 4294967296).toNat < (m - y).toNat; omega⟩
      · refine st_ret (pu_mod (pu_v rfl) (pu_v rfl) (by omega)) ?_
        have hl := fmod_lt (x := x) hm
        exact k _ _ hl.1 hl.2 hh4 s4
def mkN (f : Nat) (tl : List Nat) : Str := ⟨((97 + f) :: tl).toArray⟩
theorem letters_at : ∀ f, f < 26 → letters.cps.toList[f]? = some (97 + f) := by decide +kernel
theorem letters_find : ∀ f, f < 26 → Txt.find letters ⟨#[97 + f]⟩ = (f : Int) := by decide +kernel
theorem letters_mem {c : Nat} (h : c ∈ letters.cps.toList) : ∃ f, f < 26 ∧ c = 97 + f := by
  have : ∀ c ∈ letters.cps.toList, 97 ≤ c ∧ c < 123 := by decide +kernel
  have := this c h
  exact ⟨c - 97, by omega, by omega⟩
theorem mem_letters {f : Nat} (h : f < 26) : 97 + f ∈ letters.cps.toList := List.mem_of_getElem? (letters_at f h)
theorem mkN_list (f : Nat) (tl : List Nat) : (mkN f tl).cps.toList = (97 + f) :: tl := rfl
theorem mkN_len (f : Nat) (tl : List Nat) : (mkN f tl).length = tl.length + 1 := by rw [← L2.len_list, mkN_list]; rfl
theorem name_mk {x : Str} (h : nameOk x = true) : ∃ f tl, f < 26 ∧ x = mkN f tl := by
  unfold nameOk at h
  simp only [Bool.and_eq_true, decide_eq_true_iff, List.all_eq_true] at h
  obtain ⟨h1, _, h3⟩ := h
  rw [← L2.len_list] at h1
  cases e : x.cps.toList with
  | nil => rw [e] at h1; exact absurd h1 (by decide)
  | cons c tl =>
    obtain ⟨f, hf, rfl⟩ := letters_mem (h3 c (by rw [e]; exact List.mem_cons_self))
    exact ⟨f, tl, hf, str_ext e⟩
theorem nameOk_mk {f g : Nat} {tl : List Nat} (h : nameOk (mkN f tl) = true) (hg : g < 26) : nameOk (mkN g tl) = true := by
  unfold nameOk at h ⊢
  simp only [Bool.and_eq_true, decide_eq_true_iff, List.all_eq_true] at h ⊢
  obtain ⟨h1, h2, h3⟩ := h
  rw [mkN_len] at *
  refine ⟨h1, h2, fun c hc => ?_⟩
  rw [mkN_list] at hc h3
  rcases List.mem_cons.mp hc with rfl | hc
  · exact mem_letters hg
  · exact h3 c (List.mem_cons_of_mem _ hc)
theorem pig {α : Type} [DecidableEq α] : ∀ (m : Nat) (ts : List α) (g : Nat → α), (∀ j, j < m → g j ∈ ts) → (∀ i j, i < m → j < m → g i = g j → i = j) → m ≤ ts.length
  | 0, _, _, _, _ => Nat.zero_le _
  | m + 1, ts, g, h, inj => by
    have hm := h m (Nat.lt_succ_self m)
    have := pig m (ts.erase (g m)) g (fun j hj => (List.mem_erase_of_ne fun e => by have := inj j m (by omega) (by omega) e; omega).mpr (h j (by omega))) (fun i j hi hj e => inj i j (by omega) (by omega) e)
    rw [List.length_erase_of_mem hm] at this
    have := List.length_pos_of_mem hm
    omega
theorem mkN_inj {f g : Nat} {tl : List Nat} (h : mkN f tl = mkN g tl) : f = g := by
  have := congrArg (fun s : Str => s.cps.toList) h
  simp only [mkN_list] at this
  have := (List.cons.inj this).1
  omega
theorem in_strs (x : Str) (ts : List Str) : inV (.str x) (ts.map V.str) = true ↔ x ∈ ts := by
  unfold inV
  rw [List.any_map, List.any_eq_true]
  constructor
  · rintro ⟨y, hy, e⟩
    have : (y == x) = true := e
    rw [← beq_iff_eq.mp this]
    exact hy
  · intro h
    exact ⟨x, h, beq_self_eq_true x⟩
theorem pu_inQ {K : PySem.W.Frag} {σ : L2.St} {H : Hp} {ta tb : TE} {x : V} {p : Addr} {xs : List V} (ha : Pu ta σ H x) (hb : Pu tb σ H (.ref p)) (hq : SqL K H p xs ∨ SqT K H p xs) (fx : flatV x = true) (fs : xs.all flatV = true) : Pu (tOp (rIn K false) ta tb) σ H (.bl (inV x xs)) := fun _ q => ha _ (hb _ ⟨p, xs, rfl, hq, fx, fs, q⟩)
theorem pu_ixS {σ : L2.St} {H : Hp} {to ti : TE} {z : Str} {i : Int} {c : Nat} (ho : Pu to σ H (.str z)) (hi : Pu ti σ H (.int i)) (hz : z.length ≤ sizeLine) (ha : atI z.cps.toList i = some c) : Pu (tOp rIxS to ti) σ H (.str ⟨#[c]⟩) := fun _ q => ho _ (hi _ ⟨z, i, c, rfl, rfl, hz, ha, q⟩)
theorem pu_find {K : PySem.W.Frag} {σ : L2.St} {H : Hp} {to tb : TE} {a b : Str} (ho : Pu to σ H (.str a)) (hb : Pu tb σ H (.str b)) : Pu (tBM K "str" (fun x xs H Q => ∃ a b, x = .str a ∧ xs = [.str b] ∧ Q (.int (Txt.find a b)) H) to (tCons tb tNil)) σ H (.int (Txt.find a b)) := fun Q q =>
  ho _ ⟨rfl, hb _ ⟨a, b, rfl, rfl, q⟩⟩
theorem gv_draw1 {σ : L2.St} {H : Hp} {hd sc : Addr} {t : TA} {m : Int} (hh : HandAt H hd sc) (ha : PuA t σ H [.ref hd, .int m]) (h0 : 0 < m) (hb : Bd 9000 m) : Gv (tOp (rI0 fun i j => .int (i + j)) (tC (.int 1)) (tCall sp_l_draw [] E0 t)) σ H (fun v H' => (∃ n : Int, v = .int n ∧ 0 < n ∧ n ≤ m) ∧ HandAt H' hd sc ∧ SameB hd H H') := fun Q f => pu_c (v := .int 1) _ (gv_draw hh ha h0 hb _ fun v H' ⟨⟨n, e, n0, n1⟩, a, s⟩ => by
  subst e
  exact ⟨1, n, rfl, rfl, f _ _ ⟨⟨_, rfl, by omega, by omega⟩, a, s⟩⟩)
def words14 : List Str := [Str.ofString "in", Str.ofString "no", Str.ofString "any", Str.ofString "both", Str.ofString "least", Str.ofString "round", Str.ofString "a", Str.ofString "b", Str.ofString "ab", Str.ofString "aa", Str.ofString "put", Str.ofString "out", Str.ofString "same", Str.ofString "z"]
def sp_l_name : Sp := fun vs H Q _ => ∃ (hd sc tk : Addr) (ts : List Str), vs = [.ref hd, .ref tk] ∧ HandAt H hd sc ∧ tk ≠ hd ∧ H tk = some (.lst (ts.map V.str)) ∧ ts.length ≤ 3 ∧ ∀ (x : Str) H', nameOk x = true → HandAt H' hd sc → SameB hd H H' → Q (.str x) H'
theorem sc_l_name : FnScope ["_law_hand_here", "_law_taken", "_law_letters", "_law_words", "_law_name_here"] ["_law_hand_here", "_law_taken"] (defScope s_l_name) := ⟨rfl, rfl, rfl, by decide +kernel, rfl, by decide +kernel, by decide +kernel⟩
theorem ok_l_name (T : Txt K mg t w) : FnOk P w K mg base CX0 4 t.f_l_name t.d_l_name ["_law_hand_here", "_law_taken"] sp_l_name := by
  refine T.l_name.F.ok (k := 3) sc_l_name (fun vs H Q E h => ?_) (fun cdv A outer s H vs Q E hr h => ?_)
  · obtain ⟨hd, sc, tk, ts, rfl, _⟩ := h
    rfl
  · obtain ⟨hd, sc, tk, ts, rfl, hh, nt, ht, tl3, k⟩ := h
    refine ⟨_, (@pss_cons _ _ _ _ _ (@ps_set _ _ 2 _ _ _ _ sc_l_name.nd rfl (Or.inr rfl) (@pe_str _ _ _ _) (by rfl) (by first | exact .inl rfl | exact .inr rfl | assumption)) (@pss_cons _ _ _ _ _ (@ps_set _ _ 3 _ _ _ _ sc_l_name.nd rfl (Or.inl rfl) (@pe_lst _ _ _ _ (@pa_cons _ _ _ _ _ (@pe_str _ _ _ _) (@pa_cons _ _ _ _ _ (@pe_str _ _ _ _) (@pa_cons _ _ _ _ _ (@pe_str _ _ _ _) (@pa_cons _ _ _ _ _ (@pe_str _ _ _ _) (@pa_cons _ _ _ _ _ (@pe_str _ _ _ _) (@pa_cons _ _ _ _ _ (@pe_str _ _ _ _) (@pa_cons _ _ _ _ _ (@pe_str _ _ _ _) (@pa_cons _ _ _ _ _ (@pe_str _ _ _ _) (@pa_cons _ _ _ _ _ (@pe_str _ _ _ _) (@pa_cons _ _ _ _ _ (@pe_str _ _ _ _) (@pa_cons _ _ _ _ _ (@pe_str _ _ _ _) (@pa_cons _ _ _ _ _ (@pe_str _ _ _ _) (@pa_cons _ _ _ _ _ (@pe_str _ _ _ _) (@pa_cons _ _ _ _ _ (@pe_str _ _ _ _) (@pa_nil _) star_con) star_con) star_con) star_con) star_con) star_con) star_con) star_con) star_con) star_con) star_con) star_con) star_con) star_con)) (by rfl) (by first | exact .inl rfl | exact .inr rfl | assumption)) (@pss_cons _ _ _ _ _ (@ps_set _ _ 4 _ _ _ _ sc_l_name.nd rfl (Or.inl rfl) (@pe_ix _ _ _ _ _ _ _ ix_list (pv 3) (@pe_fn _ _ _ _ _ _ _ _ _ _ _ _ _ _ T.l_draw (ok_l_draw T) hr (by decide) (@pa_cons _ _ _ _ _ (pv 0) (@pa_cons _ _ _ _ _ (@pe_int _ _ _ _) (@pa_nil _) star_con) star_name) (by rfl) (by decide) (by rfl) (by rfl)) (fun _ _ => rfl)) (by rfl) (by first | exact .inl rfl | exact .inr rfl | assumption)) (@pss_cons _ _ _ _ _ (@ps_if _ _ _ _ _ _ _ _ (@pt_cmpR _ _ _ _ _ _ _ _ op_eq (@pe_fn _ _ _ _ _ _ _ _ _ _ _ _ _ _ T.l_draw (ok_l_draw T) hr (by decide) (@pa_cons _ _ _ _ _ (pv 0) (@pa_cons _ _ _ _ _ (@pe_int _ _ _ _) (@pa_nil _) star_con) star_name) (by rfl) (by decide) (by rfl) (by rfl)) (@pe_int _ _ _ _) (nomark _)) (@pss_one _ _ _ (@ps_set _ _ 4 _ _ _ _ sc_l_name.nd rfl (Or.inl rfl) (@pe_bm _ _ _ _ _ _ _ _ _ _ _ _ PySem.F.plainAttrs_str PySem.F.slot_str_join PySem.F.type_str_join mt_join (@pe_str _ _ _ _) (@pa_cons _ _ _ _ _ (@pe_lcompD _ "_law_k" "_law_letters" "_law_hand_here" _ _ _ _ _ _ _ _ _ 2 0 rfl (@pi_range1 _ _ _ _ _ _ rfl T.b_range (@pa_cons _ _ _ _ _ (@pe_op _ _ _ _ _ _ _ _ op_add (@pe_int _ _ _ _) (@pe_fn _ _ _ _ _ _ _ _ _ _ _ _ _ _ T.l_draw (ok_l_draw T) hr (by decide) (@pa_cons _ _ _ _ _ (pv 0) (@pa_cons _ _ _ _ _ (@pe_int _ _ _ _) (@pa_nil _) star_con) star_name) (by rfl) (by decide) (by rfl) (by rfl))) (@pa_nil _) star_bin) (by rfl)) (fun _ _ _ _ => pg_name (i := 0) (show (["_law_k", "_law_letters", "_law_hand_here"] : List Str).Nodup from by decide +kernel) rfl (Or.inl rfl) (.inr rfl)) (fun _ _ _ _ => (@pe_ix _ _ _ _ _ _ _ ix_str (pv 1) (@pe_fn _ _ _ _ _ _ _ _ _ _ _ _ _ _ T.l_draw (ok_l_draw T) hr (by decide) (@pa_cons _ _ _ _ _ (pv 2) (@pa_cons _ _ _ _ _ (@pe_int _ _ _ _) (@pa_nil _) star_con) star_name) (by rfl) (by decide) (by rfl) (by rfl)) (fun _ _ => rfl))) rfl rfl (by decide +kernel) (by decide +kernel) (And.intro rfl (And.intro rfl (And.intro rfl rfl))) (And.intro rfl (And.intro rfl (And.intro rfl rfl))) rfl (by intro _; rfl)) (@pa_nil _) star_lc) (by rfl) (by rfl) (by rfl) (by rfl) (by rfl)) (by rfl) (by first | exact .inl rfl | exact .inr rfl | assumption))) (@pss_nil _)) (@pss_cons _ _ _ _ _ (@ps_while _ _ _ _ _ _ PassesOwn.never (@pt_cmpR _ _ _ _ _ _ _ _ op_in_seq (pv 4) (pv 1) rfl) (@pss_one _ _ _ (@ps_set _ _ 4 _ _ _ _ sc_l_name.nd rfl (Or.inl rfl) (@pe_op _ _ _ _ _ _ _ _ op_add_str (@pe_ix _ _ _ _ _ _ _ ix_str (pv 2) (@pe_op _ _ _ _ _ _ _ _ op_modN (@pe_op _ _ _ _ _ _ _ _ op_add (@pe_bm _ _ _ _ _ _ _ _ _ _ _ _ PySem.F.plainAttrs_str PySem.F.slot_str_find PySem.F.type_str_find mt_find (pv 2) (@pa_cons _ _ _ _ _ (@pe_ix _ _ _ _ _ _ _ ix_str (pv 4) (@pe_int _ _ _ _) (fun _ _ => rfl)) (@pa_nil _) star_sub) (by rfl) (by rfl) (by rfl) (by rfl) (by rfl)) (@pe_int _ _ _ _)) (@pe_int _ _ _ _)) (fun _ _ => rfl)) (@pe_slice _ _ _ _ _ _ _ _ _ _ sl_str1 (pv 4) (@po_some _ _ _ (@pe_int _ _ _ _)) (@po_none _))) (by rfl) (by first | exact .inl rfl | exact .inr rfl | assumption)))) (@pss_one _ _ _ (@ps_ret _ _ _ _ (pv 4)))))))), ?_⟩
    refine st_set pu_c ?_
    refine st_setG (gv_lst (vs := words14.map V.str) (pa_c pu_c (pa_c pu_c (pa_c pu_c (pa_c pu_c (pa_c pu_c (pa_c pu_c (pa_c pu_c (pa_c pu_c (pa_c pu_c (pa_c pu_c (pa_c pu_c (pa_c pu_c (pa_c pu_c (pa_c pu_c pa_n)))))))))))))) (by decide)) ?_
    rintro _ _ ⟨lw, hlw, rfl, rfl⟩
    have s1 : Same H (upd H lw (.lst (words14.map V.str))) := Same.upd hlw
    have hh1 := hh.same s1
    have nw := hh.fresh hlw
    have w1 : (upd H lw (.lst (words14.map V.str))) lw = some (.lst (words14.map V.str)) := upd_same
    revert s1 hh1 w1
    generalize upd H lw (.lst (words14.map V.str)) = H1
    intro s1 hh1 w1
    refine st_setG (R := fun v H' => ∃ x, v = .str x ∧ nameOk x = true ∧ HandAt H' hd sc ∧ SameB hd H H') (fun Q q => ?_) ?_
    · refine pu_v (v := .ref lw) rfl _ (gv_draw hh1 (pa_c (pu_v rfl) (pa_c pu_c pa_n)) (by decide) Bd.small _ ?_)
      rintro _ H3 ⟨⟨m, rfl, m0, m1⟩, hh3, s3⟩
      have w3 := s3 _ _ w1 nw.1
      have hm : m.toNat < words14.length := by show m.toNat < 14; omega
      have hat : atI (words14.map V.str) m = some (.str words14[m.toNat]) := by
        have := atI_nat (xs := words14.map V.str) (j := m.toNat) (v := .str words14[m.toNat]) (by simp [hm])
        rwa [show ((m.toNat : Nat) : Int) = m by omega] at this
      have good : ∀ x ∈ words14, nameOk x = true := by decide +kernel
      exact ⟨lw, _, m, _, rfl, rfl, SqL.of w3, hat, q _ _ ⟨_, rfl, good _ (List.getElem_mem hm), hh3, s1.b.trans s3⟩⟩
    rintro _ H2 ⟨x0, rfl, nx0, hh2, s2⟩
    refine st_ifRG (RB := fun _ H' => HandAt H' hd sc ∧ SameB hd H H') (fun σ' H' => ∃ x, nameOk x = true ∧ HandAt H' hd sc ∧ SameB hd H H' ∧ σ' = [some (.ref hd), some (.ref tk), some (.str letters), some (.ref lw), some (.str x)]) (fun Q q => ?_) (fun H3 r D' q _ => ?_) (fun H3 r => ⟨x0, nx0, r.1, r.2, rfl⟩) ?_
    · refine gv_draw hh2 (pa_c (pu_v rfl) (pa_c pu_c pa_n)) (by decide) Bd.small _ ?_
      rintro _ H3 ⟨⟨m, rfl, _, _⟩, hh3, s3⟩
      exact ⟨rfl, _, rfl, q _ _ ⟨hh3, s2.trans s3⟩⟩
    · refine st_setG1 (R := fun v H' => ∃ x, v = .str x ∧ nameOk x = true ∧ HandAt H' hd sc ∧ SameB hd H H') (gv_join (R := fun v H' => ∃ (D : Addr) (cs : List Nat), v = .ref D ∧ 1 ≤ cs.length ∧ cs.length ≤ 8 ∧ (∀ c ∈ cs, c ∈ letters.cps.toList) ∧ H' D = some (.lst ((cs.map fun c => (⟨#[c]⟩ : Str)).map V.str)) ∧ HandAt H' hd sc ∧ SameB hd H H') (fun _ => pu_c) (gv_compRG (ga_cons (gv_draw1 (m := 8) r.1 (pa_c (pu_v rfl) (pa_c pu_c pa_n)) (by decide) Bd.small) fun _ _ _ => ga_nil) ?_) ?_) fun v H' z => by obtain ⟨x, rfl, a, b, c⟩ := z; exact q _ _ ⟨x, a, b, c, rfl⟩
      · rintro _ H3 ⟨_, _, r', rfl, ⟨⟨z, rfl, z0, z1⟩, hh3, s3⟩, rfl, rfl⟩
        obtain ⟨ys3, hys3⟩ := hh3.ls
        refine ⟨z, rfl, by omega, by omega, (gv_compR (fun D i ys H' => HandAt H' hd sc ∧ SameB hd H3 H' ∧ H' D = some (.lst ys) ∧ ∃ cs : List Nat, cs.length = i ∧ ys = (cs.map fun c => (⟨#[c]⟩ : Str)).map V.str ∧ ∀ c ∈ cs, c ∈ letters.cps.toList) (pa_c pu_c pa_n) (by omega) (by omega) (fun x => (KeepS.refl _).cons (some x)) (fun D hD => ⟨hh3.same (Same.upd hD), (Same.upd hD).b, upd_same, [], rfl, rfl, fun f hf => (nomatch hf)⟩) ?_).imp ?_⟩
        · rintro D i' ys H9 hD hi' ⟨hh9, s9, hD9, cs, hcl, rfl, hcs⟩
          have nD : D ≠ hd := fun z => by rw [z, hys3] at hD; cases hD
          refine ⟨small1000 (by rw [List.length_map, List.length_map]; omega), fun Q q => ?_⟩
          refine pu_v (v := .str (Str.ofString "abcdefghijklmnopqrstuvwxyz")) rfl _ (gv_draw hh9 (pa_c (pu_v rfl) (pa_c pu_c pa_n)) (by decide) Bd.small _ ?_)
          rintro _ H10 ⟨⟨m, rfl, m0, m1⟩, hh10, s10⟩
          have l26 : letters.cps.toList.length = 26 := by decide +kernel
          have hm : m.toNat < letters.cps.toList.length := by rw [l26]; omega
          have hat : atI letters.cps.toList m = some letters.cps.toList[m.toNat] := by
            have := atI_nat (xs := letters.cps.toList) (j := m.toNat) (v := letters.cps.toList[m.toNat]) (List.getElem?_eq_getElem hm)
            rwa [show ((m.toNat : Nat) : Int) = m by omega] at this
          have hD' := s10 _ _ hD9 nD
          refine ⟨_, m, _, rfl, rfl, by decide +kernel, hat, q _ _ ⟨hD', hh10.upd ⟨nD, fun z => ?_⟩, ?_, upd_same, cs ++ [letters.cps.toList[m.toNat]], by simp [hcl], by simp, ?_⟩⟩
          · obtain ⟨ns, i, b, c, p, q', g1, g2, _⟩ := hh3
            rw [z, g2] at hD
            cases hD
          · intro b o e n
            rw [upd_ne (ne_of_none e hD)]
            exact (s9.trans s10) b o e n
          · intro c hc
            rcases List.mem_append.mp hc with hc | hc
            · exact hcs c hc
            · rw [List.mem_singleton.mp hc]
              exact List.getElem_mem hm
        · rintro v H9 ⟨D, ys, hD, rfl, hh9, s9, hD9, cs, hcl, rfl, hcs⟩
          exact ⟨D, cs, rfl, by omega, by omega, hcs, hD9, hh9, (r.2.trans s3).trans s9⟩
      · rintro _ H3 ⟨D, cs, rfl, c1, c8, hcs, hD, hh3, s3⟩
        refine ⟨D, _, rfl, hD, joinOk_of (b := 1) (m := 8) (fun t ht => ?_) (by rw [List.length_map]; exact c8) (by decide +kernel), _, rfl, ?_, hh3, s3⟩
        · obtain ⟨c, _, rfl⟩ := List.mem_map.mp ht
          exact Nat.le_refl 1
        · have e := join_signs cs
          unfold nameOk
          rw [← L2.len_list, e, decide_eq_true c1, decide_eq_true c8]
          simpa using hcs
    rintro _ H3 ⟨x, nx, hh3, s3, rfl⟩
    obtain ⟨f, tl, hf, rfl⟩ := name_mk nx
    have t3 : H3 tk = some (.lst (ts.map V.str)) := s3 _ _ ht nt
    refine st_whileN (fun n σ H' => H3 = H' ∧ ∃ j, j + n = ts.length + 1 ∧ 1 ≤ n ∧ (∀ i, i < j → mkN ((f + i) % 26) tl ∈ ts) ∧ σ = [some (.ref hd), some (.ref tk), some (.str letters), some (.ref lw), some (.str (mkN ((f + j) % 26) tl))]) ⟨ts.length + 1, rfl, 0, by omega, by omega, fun i hi => absurd hi (Nat.not_lt_zero i), by rw [Nat.add_zero, Nat.mod_eq_of_lt hf]⟩ ?_
    rintro n σ _ ⟨rfl, j, hj, n1, hts, rfl⟩
    have hg : (f + j) % 26 < 26 := Nat.mod_lt _ (by decide)
    have ng : nameOk (mkN ((f + j) % 26) tl) = true := nameOk_mk nx hg
    refine ⟨fun b H' => b = inV (.str (mkN ((f + j) % 26) tl)) (ts.map V.str) ∧ H3 = H', fun Q q => ?_, fun H' e => ?_, fun H' e => ?_⟩
    · refine PuT.gt (pt_t (pu_inQ (K := K) (pu_v rfl) (pu_v rfl) (.inl (SqL.of t3)) rfl ?_)) ⟨rfl, rfl⟩ Q q
      rw [List.all_eq_true]
      intro v hv
      obtain ⟨t, _, rfl⟩ := List.mem_map.mp hv
      rfl
    · obtain ⟨e, rfl⟩ := e
      have hin : mkN ((f + j) % 26) tl ∈ ts := (in_strs _ _).mp e.symm
      have hall : ∀ i, i < j + 1 → mkN ((f + i) % 26) tl ∈ ts := fun i hi => by
        rcases Nat.lt_or_eq_of_le (Nat.le_of_lt_succ hi) with h | h
        · exact hts i h
        · rw [h]; exact hin
      have hle := pig (j + 1) ts (fun i => mkN ((f + i) % 26) tl) hall (fun i i' hi hi' e => by
        have := mkN_inj e
        omega)
      have l9 := (name_len ng)
      rw [mkN_len] at l9
      have big : 1000 ≤ sizeLine := by decide
      refine st_set1 (v := .str (mkN ((f + (j + 1)) % 26) tl)) ?_ ⟨n - 1, by omega, rfl, j + 1, by omega, by omega, hall, rfl⟩
      have hg' : (f + (j + 1)) % 26 < 26 := Nat.mod_lt _ (by decide)
      have e1 : (⟨#[97 + (f + (j + 1)) % 26]⟩ : Str) ++ ⟨((mkN ((f + j) % 26) tl).cps.toList.drop 1).toArray⟩ = mkN ((f + (j + 1)) % 26) tl := by
        apply str_ext
        rw [app_list]
        rfl
      rw [← e1]
      refine pu_addS (pu_ixS (i := ((f + (j + 1)) % 26 : Nat)) (pu_v rfl) (pu_cast (pu_mod (pu_add (pu_find (pu_v rfl) (pu_ixS (c := 97 + (f + j) % 26) (pu_v rfl) pu_c (by rw [mkN_len]; omega) (atI_nat (j := 0) rfl))) pu_c) pu_c (by decide)) ?_) (by decide +kernel) (atI_nat (letters_at _ hg'))) (pu_cut1 (tn := tNoPart) (pu_v rfl) (by rw [mkN_len]; omega) (by rw [mkN_len]; omega)) ?_
      · rw [letters_find _ hg, Int.fmod_eq_emod_of_nonneg _ (by decide)]
        congr 1
        omega
      · have : ((⟨((mkN ((f + j) % 26) tl).cps.toList.drop 1).toArray⟩ : Str)).length = tl.length := by rw [← L2.len_list]; rfl
        rw [this]
        show 1 + tl.length ≤ sizeLine
        omega
    · obtain ⟨e, rfl⟩ := e
      exact st_ret (pu_v rfl) (k _ _ ng hh3 s3)
def sp_l_names : Sp := fun vs H Q _ => ∃ hd sc, vs = [.ref hd, .int 4] ∧ HandAt H hd sc ∧ ∀ (l : Addr) (ts : List Str) H', H l = none → H' l = some (.lst (ts.map V.str)) → ts.length = 4 → (∀ x ∈ ts, nameOk x = true) → HandAt H' hd sc → SameB hd H H' → Q (.ref l) H'
theorem sc_l_names : FnScope ["_law_hand_here", "_law_many", "_law_names_here", "_law_k"] ["_law_hand_here", "_law_many"] (defScope s_l_names) := ⟨rfl, rfl, rfl, by decide +kernel, rfl, by decide +kernel, by decide +kernel⟩
theorem ok_l_names (T : Txt K mg t w) : FnOk P w K mg base CX0 5 t.f_l_names t.d_l_names ["_law_hand_here", "_law_many"] sp_l_names := by
  refine T.l_names.F.ok (k := 4) sc_l_names (fun vs H Q E h => ?_) (fun cdv A outer s H vs Q E hr h => ?_)
  · obtain ⟨hd, sc, rfl, _⟩ := h
    rfl
  · obtain ⟨hd, sc, rfl, hh, k⟩ := h
    refine ⟨_, (@pss_cons _ _ _ _ _ (@ps_set _ _ 2 _ _ _ _ sc_l_names.nd rfl (Or.inl rfl) (@pe_lst _ _ _ _ (@pa_nil _)) (by rfl) (by first | exact .inl rfl | exact .inr rfl | assumption)) (@pss_cons _ _ _ _ _ (@ps_for _ _ _ _ _ _ _ _ PassesOwn.never rfl (@pi_range1 _ _ _ _ _ _ rfl T.b_range (@pa_cons _ _ _ _ _ (pv 1) (@pa_nil _) star_name) (by rfl)) (@pg_name _ _ 3 _ sc_l_names.nd rfl (Or.inl rfl) (by first | exact .inl rfl | exact .inr rfl | assumption)) (@pss_one _ _ _ (@ps_expr _ _ _ _ (@pe_bm _ _ _ _ _ _ _ _ _ _ _ _ PySem.F.plainAttrs_list PySem.F.slot_list_append PySem.F.type_list_append mt_append (pv 2) (@pa_cons _ _ _ _ _ (@pe_fn _ _ _ _ _ _ _ _ _ _ _ _ _ _ T.l_name (ok_l_name T) hr (by decide) (@pa_cons _ _ _ _ _ (pv 0) (@pa_cons _ _ _ _ _ (pv 2) (@pa_nil _) star_name) star_name) (by rfl) (by decide) (by rfl) (by rfl)) (@pa_nil _) star_call) (by rfl) (by rfl) (by rfl) (by rfl) (by rfl)) (by rfl))) (by intro _; rfl)) (@pss_one _ _ _ (@ps_ret _ _ _ _ (pv 2))))), ?_⟩
    refine st_setG (gv_lst (vs := []) pa_n (by decide)) ?_
    rintro _ _ ⟨l, hl, rfl, rfl⟩
    have nl := hh.fresh hl
    refine st_range (n := 4) (pa_c (pu_v rfl) pa_n) (by decide) (by decide) (fun i σ H' => ∃ (ts : List Str) (z : Option V), H' l = some (.lst (ts.map V.str)) ∧ ts.length = i ∧ (∀ x ∈ ts, nameOk x = true) ∧ HandAt H' hd sc ∧ SameB hd H H' ∧ σ = [some (.ref hd), some (.int 4), some (.ref l), z]) ⟨[], none, upd_same, rfl, fun x hx => (nomatch hx), hh.same (Same.upd hl), (Same.upd hl).b, rfl⟩ ?_ ?_
    · rintro i σ H1 hi ⟨ts, z, hl1, tl, nn, hh1, s1, rfl⟩
      have hi4 : i < 4 := by omega
      refine st_app1 (xs := ts.map V.str) (R := fun v H' => ∃ x, v = .str x ∧ nameOk x = true ∧ HandAt H' hd sc ∧ SameB hd H1 H') (pu_v rfl) hl1 (gv_call (pa_c (pu_v rfl) (pa_c (pu_v rfl) pa_n)) fun Q q => ⟨hd, sc, l, ts, rfl, hh1, nl.1, hl1, by omega, fun x H' a b c => q _ _ ⟨x, rfl, a, b, c⟩⟩) ?_
      rintro _ H2 ⟨x, rfl, nx, hh2, s2⟩
      have hl2 := s2 _ _ hl1 nl.1
      refine ⟨_, hl2, small1000 (by rw [List.length_map]; omega), ts ++ [x], _, ?_, by simp [tl], ?_, hh2.upd nl, ?_, rfl⟩
      · rw [upd_same, List.map_append]; rfl
      · intro y hy
        rcases List.mem_append.mp hy with h | h
        · exact nn y h
        · rw [List.mem_singleton.mp h]; exact nx
      · intro b o e n
        rw [upd_ne (ne_of_none e hl)]
        exact (s1.trans s2) b o e n
    · rintro σ H1 ⟨ts, z, hl1, tl, nn, hh1, s1, rfl⟩
      exact st_ret (pu_v rfl) (k l ts H1 hl hl1 (by simpa using tl) nn hh1 s1)
def sp_l_number : Sp := fun vs H Q _ => ∃ hd sc, vs = [.ref hd] ∧ HandAt H hd sc ∧ ∀ (n : Int) H', HandAt H' hd sc → SameB hd H H' → Q (.int n) H'
theorem gv_number {σ : L2.St} {H : Hp} {hd sc : Addr} {t : TA} (hh : HandAt H hd sc) (ha : PuA t σ H [.ref hd]) : Gv (tCall sp_l_number [] E0 t) σ H (fun v H' => (∃ n : Int, v = .int n) ∧ HandAt H' hd sc ∧ SameB hd H H') :=
  gv_call ha fun Q f => ⟨hd, sc, rfl, hh, fun n H' a s => f _ _ ⟨⟨n, rfl⟩, a, s⟩⟩
theorem sc_l_number : FnScope ["_law_hand_here"] ["_law_hand_here"] (defScope s_l_number) := ⟨rfl, rfl, rfl, by decide +kernel, rfl, by decide +kernel, by decide +kernel⟩
theorem ok_l_number (T : Txt K mg t w) : FnOk P w K mg base CX0 4 t.f_l_number t.d_l_number ["_law_hand_here"] sp_l_number := by
  refine T.l_number.F.ok (k := 3) sc_l_number (fun vs H Q E h => ?_) (fun cdv A outer s H vs Q E hr h => ?_)
  · obtain ⟨hd, sc, rfl, _⟩ := h
    rfl
  · obtain ⟨hd, sc, rfl, hh, k⟩ := h
    refine ⟨_, (@pss_cons _ _ _ _ _ (@ps_if _ _ _ _ _ _ _ _ (@pt_cmpR _ _ _ _ _ _ _ _ op_eq (@pe_fn _ _ _ _ _ _ _ _ _ _ _ _ _ _ T.l_draw (ok_l_draw T) hr (by decide) (@pa_cons _ _ _ _ _ (pv 0) (@pa_cons _ _ _ _ _ (@pe_int _ _ _ _) (@pa_nil _) star_con) star_name) (by rfl) (by decide) (by rfl) (by rfl)) (@pe_int _ _ _ _) (nomark _)) (@pss_one _ _ _ (@ps_ret _ _ _ _ (@pe_op _ _ _ _ _ _ _ _ op_sub (@pe_fn _ _ _ _ _ _ _ _ _ _ _ _ _ _ T.l_draw (ok_l_draw T) hr (by decide) (@pa_cons _ _ _ _ _ (pv 0) (@pa_cons _ _ _ _ _ (@pe_op _ _ _ _ _ _ _ _ op_pow (@pe_int _ _ _ _) (@pe_int _ _ _ _)) (@pa_nil _) star_bin) star_name) (by rfl) (by decide) (by rfl) (by rfl)) (@pe_op _ _ _ _ _ _ _ _ op_mulB (@pe_int _ _ _ _) (@pe_op _ _ _ _ _ _ _ _ op_pow (@pe_int _ _ _ _) (@pe_int _ _ _ _)))))) (@pss_nil _)) (@pss_one _ _ _ (@ps_ret _ _ _ _ (@pe_op _ _ _ _ _ _ _ _ op_sub (@pe_fn _ _ _ _ _ _ _ _ _ _ _ _ _ _ T.l_draw (ok_l_draw T) hr (by decide) (@pa_cons _ _ _ _ _ (pv 0) (@pa_cons _ _ _ _ _ (@pe_int _ _ _ _) (@pa_nil _) star_con) star_name) (by rfl) (by decide) (by rfl) (by rfl)) (@pe_int _ _ _ _))))), ?_⟩
    have P30 : ∀ {σ : L2.St} {H' : Hp}, Pu (tOp (rI CPow fun i j => .int (i ^ j.toNat)) (tC (.int 10)) (tC (.int 30))) σ H' (.int (10 ^ 30)) := pu_pow pu_c pu_c ⟨by decide, by decide, by decide⟩
    have P29 : ∀ {σ : L2.St} {H' : Hp}, Pu (tOp (rI CPow fun i j => .int (i ^ j.toNat)) (tC (.int 10)) (tC (.int 29))) σ H' (.int (10 ^ 29)) := pu_pow pu_c pu_c ⟨by decide, by decide, by decide⟩
    have B30 : Bd 9000 (10 ^ 30 : Int) := by unfold Bd; decide +kernel
    refine st_ifNG (R := fun _ H' => HandAt H' hd sc ∧ SameB hd H H') (fun Q q => ?_) (fun H2 r => ?_) (fun H2 r => ?_)
    · refine gv_draw hh (pa_c (pu_v rfl) (pa_c pu_c pa_n)) (by decide) Bd.small _ ?_
      rintro _ H2 ⟨⟨m, rfl, _, _⟩, hh2, s2⟩
      exact ⟨rfl, _, rfl, q _ _ ⟨hh2, s2⟩⟩
    · refine st_retG (R := fun v H' => ∃ n : Int, v = .int n ∧ HandAt H' hd sc ∧ SameB hd H H') (fun Q q => ?_) fun v H' z => by obtain ⟨n, rfl, a, b⟩ := z; exact k n H' a b
      refine gv_draw r.1 (pa_c (pu_v rfl) (pa_c P30 pa_n)) (by decide) B30 _ ?_
      rintro _ H3 ⟨⟨m, rfl, _, _⟩, hh3, s3⟩
      exact (pu_mul pu_c P29 (IntMulOk.of_left (by decide))) _ ⟨m, _, rfl, rfl, q _ _ ⟨_, rfl, hh3, r.2.trans s3⟩⟩
    · refine st_retG (R := fun v H' => ∃ n : Int, v = .int n ∧ HandAt H' hd sc ∧ SameB hd H H') (fun Q q => ?_) fun v H' z => by obtain ⟨n, rfl, a, b⟩ := z; exact k n H' a b
      refine gv_draw r.1 (pa_c (pu_v rfl) (pa_c pu_c pa_n)) (by decide) Bd.small _ ?_
      rintro _ H3 ⟨⟨m, rfl, _, _⟩, hh3, s3⟩
      exact ⟨m, _, rfl, rfl, q _ _ ⟨_, rfl, hh3, r.2.trans s3⟩⟩
def sp_l_wish (n : Nat) : Sp := fun vs H Q _ => ∃ (hd sc nl : Addr) (ts : List Str), vs = [.ref hd, .ref nl, .int (n : Int)] ∧ 1 ≤ n ∧ HandAt H hd sc ∧ nl ≠ hd ∧ H nl = some (.lst (ts.map V.str)) ∧ ts.length = 4 ∧ (∀ x ∈ ts, nameOk x = true) ∧ ∀ (v : V) (u : Wi) H', DAt hd H' v u.d → u.names → u.deep ≤ n → HandAt H' hd sc → SameB hd H H' → Q v H'
theorem sc_l_wish : FnScope ["_law_hand_here", "_law_names_here", "_law_deep_here", "_law_way", "_law_name_here", "_law_one"] ["_law_hand_here", "_law_names_here", "_law_deep_here"] (defScope s_l_wish) := ⟨rfl, rfl, rfl, by decide +kernel, rfl, by decide +kernel, by decide +kernel⟩
theorem nAsc {x : Str} (h : nameOk x = true) : (∀ c ∈ x.cps.toList, c < 128) ∧ x.length ≤ 1000 := ⟨name_ascii h, Nat.le_trans (name_len h).2 (by decide)⟩
theorem gv_pickN {K : PySem.W.Frag} {σ : L2.St} {H : Hp} {hd sc nl : Addr} {ts : List Str} {ih il : Nat} (hh : HandAt H hd sc) (nn : nl ≠ hd) (hn : H nl = some (.lst (ts.map V.str))) (h4 : ts.length = 4) (hall : ∀ x ∈ ts, nameOk x = true) (h0 : σ[ih]? = some (some (.ref hd))) (h1 : σ[il]? = some (some (.ref nl))) :
    Gv (tOp (rIxL K) (tVar il) (tCall sp_l_draw [] E0 (tCons (tVar ih) (tCons (tCB (fun xs H Q => ∃ p ys, xs = [.ref p] ∧ (SqL K H p ys ∨ SqT K H p ys) ∧ Q (.int ys.length) H) (tCons (tVar il) tNil)) tNil)))) σ H (fun v H' => (∃ x, v = .str x ∧ nameOk x = true) ∧ HandAt H' hd sc ∧ SameB hd H H') := fun Q q => by
  refine pu_v h1 _ (gv_draw (m := 4) hh (pa_c (pu_v h0) (pa_c (pu_cast (pu_lenL (pa_c (pu_v h1) pa_n) (SqL.of hn)) (by rw [List.length_map, h4]; rfl)) pa_n)) (by decide) Bd.small _ ?_)
  rintro _ H3 ⟨⟨m, rfl, m0, m1⟩, hh3, s3⟩
  have w3 := s3 _ _ hn nn
  have hm : m.toNat < ts.length := by omega
  have hat : atI (ts.map V.str) m = some (.str ts[m.toNat]) := by
    have := atI_nat (xs := ts.map V.str) (j := m.toNat) (v := .str ts[m.toNat]) (by simp [hm])
    rwa [show ((m.toNat : Nat) : Int) = m by omega] at this
  exact ⟨nl, _, m, _, rfl, rfl, SqL.of w3, hat, q _ _ ⟨⟨_, rfl, hall _ (List.getElem_mem hm)⟩, hh3, s3⟩⟩
/-- ['both', 'any'][j] -/
theorem gv_two {K : PySem.W.Frag} {σ : L2.St} {H : Hp} {ti : TE} {j : Int} (hi : ∀ H', Pu ti σ H' (.int j)) (hj : j = 0 ∨ j = 1) : Gv (tOp (rIxL K) (tLst (tCons (tC (.str (Str.ofString "both"))) (tCons (tC (.str (Str.ofString "any"))) tNil))) ti) σ H (fun v H' => ∃ b : Bool, v = .str (if b then Str.ofString "any" else Str.ofString "both") ∧ Same H H') := by
  intro Q q
  refine gv_lst (pa_c (pu_c (v := .str (Str.ofString "both"))) (pa_c (pu_c (v := .str (Str.ofString "any"))) pa_n)) len2 _ ?_
  rintro _ _ ⟨p, hp, rfl, rfl⟩
  have hix : ∃ b : Bool, atI [V.str (Str.ofString "both"), V.str (Str.ofString "any")] j = some (.str (if b then Str.ofString "any" else Str.ofString "both")) := by
    rcases hj with z | z
    · exact ⟨false, by rw [z]; rfl⟩
    · exact ⟨true, by rw [z]; rfl⟩
  obtain ⟨b, hix⟩ := hix
  exact (hi _) _ ⟨p, _, _, _, rfl, rfl, SqL.of upd_same, hix, q _ _ ⟨b, rfl, Same.upd hp⟩⟩
theorem gv_wish {n : Nat} {σ : L2.St} {H : Hp} {hd sc nl : Addr} {ts : List Str} {t : TA} (hn : 1 ≤ n) (hh : HandAt H hd sc) (nn : nl ≠ hd) (hl : H nl = some (.lst (ts.map V.str))) (h4 : ts.length = 4) (hall : ∀ x ∈ ts, nameOk x = true) (ha : PuA t σ H [.ref hd, .ref nl, .int (n : Int)]) : Gv (tCall (sp_l_wish n) [] E0 t) σ H (fun v H' => (∃ u : Wi, DAt hd H' v u.d ∧ u.names ∧ u.deep ≤ n) ∧ HandAt H' hd sc ∧ SameB hd H H') :=
  gv_call ha fun Q f => ⟨hd, sc, nl, ts, rfl, hn, hh, nn, hl, h4, hall, fun v u H' h1 h2 h4 a s => f _ _ ⟨⟨u, h1, h2, h4⟩, a, s⟩⟩
theorem okA_wish (T : Txt K mg t w) {n k : Nat} (GP : FnOk P w K mg base CX0 k t.f_l_wish t.d_l_wish ["_law_hand_here", "_law_names_here", "_law_deep_here"] (sp_l_wish n)) (hk : 8 ≤ k) : FnOk P w K mg base CX0 (k + 1) t.f_l_wish t.d_l_wish ["_law_hand_here", "_law_names_here", "_law_deep_here"] (sp_l_wish (n + 1)) := by
  have ok_l_wish := fun (_ : Txt K mg t w) => GP
  refine T.l_wish.F.ok (k := k) sc_l_wish (fun vs H Q E h => ?_) (fun cdv A outer s H vs Q E hr h => ?_)
  · obtain ⟨hd, sc, nl, ts, rfl, _⟩ := h
    rfl
  · obtain ⟨hd, sc, nl, ts, rfl, _, hh, nn, hl, h4, hall, k⟩ := h
    refine ⟨_, (@pss_cons _ _ _ _ _ (@ps_set _ _ 3 _ _ _ _ sc_l_wish.nd rfl (Or.inl rfl) (@pe_fn _ _ _ _ _ _ _ _ _ _ _ _ _ _ T.l_draw (ok_l_draw T) hr (by omega) (@pa_cons _ _ _ _ _ (pv 0) (@pa_cons _ _ _ _ _ (@pe_int _ _ _ _) (@pa_nil _) star_con) star_name) (by rfl) (by decide) (by rfl) (by rfl)) (by rfl) (by first | exact .inl rfl | exact .inr rfl | assumption)) (@pss_cons _ _ _ _ _ (@ps_if _ _ _ _ _ _ _ _ (PW.pt (@pw_or _ _ _ _ _ _ _ (@pt_cmpR _ _ _ _ _ _ _ _ op_lt (pv 2) (@pe_int _ _ _ _) (nomark _)) (@pw_or1 _ _ _ _ (@pt_cmpR _ _ _ _ _ _ _ _ op_lt (pv 3) (@pe_int _ _ _ _) (nomark _))))) (@pss_cons _ _ _ _ _ (@ps_if _ _ _ _ _ _ _ _ (@pt_cmpR _ _ _ _ _ _ _ _ op_eq (@pe_op _ _ _ _ _ _ _ _ op_modN (pv 3) (@pe_int _ _ _ _)) (@pe_int _ _ _ _) (nomark _)) (@pss_one _ _ _ (@ps_ret _ _ _ _ (@pe_tup _ _ _ _ _ (@pa_cons _ _ _ _ _ (@pe_str _ _ _ _) (@pa_cons _ _ _ _ _ (@pe_ix _ _ _ _ _ _ _ ix_list (pv 1) (@pe_fn _ _ _ _ _ _ _ _ _ _ _ _ _ _ T.l_draw (ok_l_draw T) hr (by omega) (@pa_cons _ _ _ _ _ (pv 0) (@pa_cons _ _ _ _ _ (@pe_callB _ _ _ _ _ _ _ _ _ call_len_seq (by rfl) T.b_len PySem.boot_len (@pa_cons _ _ _ _ _ (pv 1) (@pa_nil _) star_name) (by decide) (by decide) (by rfl) (by rfl)) (@pa_nil _) star_call) star_name) (by rfl) (by decide) (by rfl) (by rfl)) (fun _ _ => rfl)) (@pa_nil _) star_sub) star_con)))) (@pss_nil _)) (@pss_cons _ _ _ _ _ (@ps_if _ _ _ _ _ _ _ _ (@pt_cmpR _ _ _ _ _ _ _ _ op_eq (@pe_op _ _ _ _ _ _ _ _ op_modN (pv 3) (@pe_int _ _ _ _)) (@pe_int _ _ _ _) (nomark _)) (@pss_cons _ _ _ _ _ (@ps_set _ _ 4 _ _ _ _ sc_l_wish.nd rfl (Or.inl rfl) (@pe_ix _ _ _ _ _ _ _ ix_list (pv 1) (@pe_fn _ _ _ _ _ _ _ _ _ _ _ _ _ _ T.l_draw (ok_l_draw T) hr (by omega) (@pa_cons _ _ _ _ _ (pv 0) (@pa_cons _ _ _ _ _ (@pe_callB _ _ _ _ _ _ _ _ _ call_len_seq (by rfl) T.b_len PySem.boot_len (@pa_cons _ _ _ _ _ (pv 1) (@pa_nil _) star_name) (by decide) (by decide) (by rfl) (by rfl)) (@pa_nil _) star_call) star_name) (by rfl) (by decide) (by rfl) (by rfl)) (fun _ _ => rfl)) (by rfl) (by first | exact .inl rfl | exact .inr rfl | assumption)) (@pss_one _ _ _ (@ps_ret _ _ _ _ (@pe_tup _ _ _ _ _ (@pa_cons _ _ _ _ _ (@pe_str _ _ _ _) (@pa_cons _ _ _ _ _ (pv 4) (@pa_cons _ _ _ _ _ (@pe_fn _ _ _ _ _ _ _ _ _ _ _ _ _ _ T.l_number (ok_l_number T) hr (by omega) (@pa_cons _ _ _ _ _ (pv 0) (@pa_nil _) star_name) (by rfl) (by decide) (by rfl) (by rfl)) (@pa_nil _) star_call) star_name) star_con))))) (@pss_nil _)) (@pss_one _ _ _ (@ps_ret _ _ _ _ (@pe_tup _ _ _ _ _ (@pa_cons _ _ _ _ _ (@pe_str _ _ _ _) (@pa_cons _ _ _ _ _ (@pe_fn _ _ _ _ _ _ _ _ _ _ _ _ _ _ T.l_number (ok_l_number T) hr (by omega) (@pa_cons _ _ _ _ _ (pv 0) (@pa_nil _) star_name) (by rfl) (by decide) (by rfl) (by rfl)) (@pa_nil _) star_call) star_con)))))) (@pss_nil _)) (@pss_cons _ _ _ _ _ (@ps_set _ _ 5 _ _ _ _ sc_l_wish.nd rfl (Or.inl rfl) (@pe_fn _ _ _ _ _ _ _ _ _ _ _ _ _ _ T.l_wish (ok_l_wish T) hr (by omega) (@pa_cons _ _ _ _ _ (pv 0) (@pa_cons _ _ _ _ _ (pv 1) (@pa_cons _ _ _ _ _ (@pe_op _ _ _ _ _ _ _ _ op_sub (pv 2) (@pe_int _ _ _ _)) (@pa_nil _) star_bin) star_name) star_name) (by rfl) (by decide) (by rfl) (by rfl)) (by rfl) (by first | exact .inl rfl | exact .inr rfl | assumption)) (@pss_cons _ _ _ _ _ (@ps_if _ _ _ _ _ _ _ _ (@pt_cmpR _ _ _ _ _ _ _ _ op_eq (pv 3) (@pe_int _ _ _ _) (nomark _)) (@pss_one _ _ _ (@ps_ret _ _ _ _ (@pe_tup _ _ _ _ _ (@pa_cons _ _ _ _ _ (@pe_str _ _ _ _) (@pa_cons _ _ _ _ _ (pv 5) (@pa_nil _) star_name) star_con)))) (@pss_nil _)) (@pss_one _ _ _ (@ps_ret _ _ _ _ (@pe_tup _ _ _ _ _ (@pa_cons _ _ _ _ _ (@pe_ix _ _ _ _ _ _ _ ix_list (@pe_lst _ _ _ _ (@pa_cons _ _ _ _ _ (@pe_str _ _ _ _) (@pa_cons _ _ _ _ _ (@pe_str _ _ _ _) (@pa_nil _) star_con) star_con)) (@pe_op _ _ _ _ _ _ _ _ op_sub (pv 3) (@pe_int _ _ _ _)) (fun _ _ => rfl)) (@pa_cons _ _ _ _ _ (pv 5) (@pa_cons _ _ _ _ _ (@pe_fn _ _ _ _ _ _ _ _ _ _ _ _ _ _ T.l_wish (ok_l_wish T) hr (by omega) (@pa_cons _ _ _ _ _ (pv 0) (@pa_cons _ _ _ _ _ (pv 1) (@pa_cons _ _ _ _ _ (@pe_op _ _ _ _ _ _ _ _ op_sub (pv 2) (@pe_int _ _ _ _)) (@pa_nil _) star_bin) star_name) star_name) (by rfl) (by decide) (by rfl) (by rfl)) (@pa_nil _) star_call) star_name) star_sub)))))))), ?_⟩
    refine st_setG (gv_draw hh (pa_c (pu_v rfl) (pa_c pu_c pa_n)) (by decide) Bd.small) ?_
    rintro _ H1 ⟨⟨m, rfl, b0, b1⟩, hh1, s1⟩
    have hl1 := s1 _ _ hl nn
    have fin : ∀ {v : V} {H' : Hp} (u : Wi), DAt hd H' v u.d → u.names → u.deep ≤ n + 1 → HandAt H' hd sc → SameB hd H1 H' → Q v H' := fun {v H'} u h1 h2 h4 h5 h6 => k v u H' h1 h2 h4 h5 (s1.trans h6)
    have em : m.fmod 3 = m % 3 := Int.fmod_eq_emod_of_nonneg _ (by decide)
    refine st_ifN (pt_or (pt_t (pu_lt (pu_v rfl) pu_c)) fun _ => pt_t (pu_lt (pu_v rfl) pu_c)) (fun _ => ?_) (fun c0 => ?_)
    · refine st_ifN (pt_t (pu_eqI (pu_mod (pu_v rfl) pu_c (by decide)) pu_c)) (fun _ => ?_) (fun c1 => ?_)
      · refine st_retG (R := fun v H' => Q v H') (gv_tupA (RA := fun vs H' => ∃ x, vs = [.str (Str.ofString "in"), .str x] ∧ nameOk x = true ∧ HandAt H' hd sc ∧ SameB hd H1 H') (fun Q2 q2 => pu_c (v := .str (Str.ofString "in")) _ (gv_pickN hh1 nn hl1 h4 hall rfl rfl _ fun v H' ⟨⟨x, e, nx⟩, a, s⟩ => by subst e; exact q2 _ _ ⟨x, rfl, nx, a, s⟩)) ?_) fun _ _ z => z
        rintro _ H2 ⟨x, rfl, nx, hh2, s2⟩
        exact ⟨len2, fun a ha => fin (.inn x) (.tup upd_same (.cons (.str _ (by decide +kernel)) (.cons (.str _ (nAsc nx)) .nil))) nx (Nat.succ_le_succ (Nat.zero_le _)) (hh2.same (Same.upd ha)) (s2.trans (Same.upd ha).b)⟩
      refine st_ifN (pt_t (pu_eqI (pu_mod (pu_v rfl) pu_c (by decide)) pu_c)) (fun _ => ?_) (fun c1 => ?_)
      · refine st_setG (gv_pickN hh1 nn hl1 h4 hall rfl rfl) ?_
        rintro _ H2 ⟨⟨x, rfl, nx⟩, hh2, s2⟩
        refine st_retG (R := fun v H' => Q v H') (gv_tupA (RA := fun vs H' => ∃ z : Int, vs = [.str (Str.ofString "round"), .str x, .int z] ∧ HandAt H' hd sc ∧ SameB hd H1 H') (fun Q2 q2 => pu_c (v := .str (Str.ofString "round")) _ ((pu_v rfl : Pu (tVar 4) _ _ (.str x)) _ (gv_number hh2 (pa_c (pu_v rfl) pa_n) _ fun v H' ⟨⟨z, e⟩, a, s⟩ => by subst e; exact q2 _ _ ⟨z, rfl, a, s2.trans s⟩))) ?_) fun _ _ z => z
        rintro _ H3 ⟨z, rfl, hh3, s3⟩
        exact ⟨len3, fun a ha => fin (.rnd x z) (.tup upd_same (.cons (.str _ (by decide +kernel)) (.cons (.str _ (nAsc nx)) (.cons (.int z) .nil)))) nx (Nat.succ_le_succ (Nat.zero_le _)) (hh3.same (Same.upd ha)) (s3.trans (Same.upd ha).b)⟩
      refine st_retG (R := fun v H' => Q v H') (gv_tupA (RA := fun vs H' => ∃ z : Int, vs = [.str (Str.ofString "least"), .int z] ∧ HandAt H' hd sc ∧ SameB hd H1 H') (fun Q2 q2 => pu_c (v := .str (Str.ofString "least")) _ (gv_number hh1 (pa_c (pu_v rfl) pa_n) _ fun v H' ⟨⟨z, e⟩, a, s⟩ => by subst e; exact q2 _ _ ⟨z, rfl, a, s⟩)) ?_) fun _ _ z => z
      rintro _ H3 ⟨z, rfl, hh3, s3⟩
      exact ⟨len2, fun a ha => fin (.lst z) (.tup upd_same (.cons (.str _ (by decide +kernel)) (.cons (.int z) .nil))) trivial (Nat.succ_le_succ (Nat.zero_le _)) (hh3.same (Same.upd ha)) (s3.trans (Same.upd ha).b)⟩
    rw [Bool.or_eq_false_iff] at c0
    have cn := of_decide_eq_false c0.1
    have cm := of_decide_eq_false c0.2
    have hn : 1 ≤ n := by omega
    have AR : ∀ {σ : L2.St} {H' : Hp}, σ[0]? = some (some (.ref hd)) → σ[1]? = some (some (.ref nl)) → σ[2]? = some (some (.int ((n + 1 : Nat) : Int))) → PuA (tCons (tVar 0) (tCons (tVar 1) (tCons (tOp (rI0 fun i j => .int (i - j)) (tVar 2) (tC (.int 1))) tNil))) σ H' [.ref hd, .ref nl, .int (n : Int)] := fun h0 h1 h2 => pa_c (pu_v h0) (pa_c (pu_v h1) (pa_c (pu_cast (pu_sub (pu_v h2) pu_c) (by congr 1; omega)) pa_n))
    refine st_setG (gv_wish hn hh1 nn hl1 h4 hall (AR rfl rfl rfl)) ?_
    rintro v H2 ⟨⟨u, hv, nu, du⟩, hh2, s2⟩
    have hl2 := s2 _ _ hl1 nn
    obtain ⟨ys2, hys2⟩ := hh2.ls
    refine st_ifN (pt_t (pu_eqI (pu_v rfl) pu_c)) (fun _ => ?_) (fun c3 => ?_)
    · refine st_retG (gv_tup (pa_c pu_c (pa_c (pu_v rfl) pa_n)) len2) ?_
      rintro _ _ ⟨a, ha, rfl, rfl⟩
      exact fin (.no u) (.tup upd_same (.cons (.str _ (by decide +kernel)) (.cons (hv.same (Same.upd ha)) .nil))) nu (Nat.succ_le_succ du) (hh2.same (Same.upd ha)) (s2.trans (Same.upd ha).b)
    have c3' := of_decide_eq_false c3
    refine st_retG (R := fun v H' => Q v H') (gv_tupA (RA := fun vs H' => ∃ (b : Bool) (v' : V) (u' : Wi), vs = [.str (if b then Str.ofString "any" else Str.ofString "both"), v, v'] ∧ DAt hd H' v u.d ∧ DAt hd H' v' u'.d ∧ u'.names ∧ u'.deep ≤ n ∧ HandAt H' hd sc ∧ SameB hd H1 H') (fun Q2 q2 => ?_) ?_) fun _ _ z => z
    · refine gv_two (j := m - 4) (fun H' => pu_sub (pu_v rfl) pu_c) (by omega) _ ?_
      rintro _ H3 ⟨b, rfl, s3⟩
      have hh3 := hh2.same s3
      refine (pu_v rfl : Pu (tVar 5) _ _ v) _ (gv_wish hn hh3 nn (s3 _ _ hl2) h4 hall (AR rfl rfl rfl) _ ?_)
      rintro v' H4 ⟨⟨u', hv', nu', du'⟩, hh4, s4⟩
      exact q2 _ _ ⟨b, v', u', rfl, DAt.but (s3 _ _ hys2) s4 (hv.same s3), hv', nu', du', hh4, (s2.trans s3.b).trans s4⟩
    · rintro _ H4 ⟨b, v', u', rfl, hv4, hv', nu', du', hh4, s4⟩
      refine ⟨len3, fun a ha => ?_⟩
      cases b with
      | false => exact fin (.both u u') (.tup upd_same (.cons (.str _ (by decide +kernel)) (.cons (hv4.same (Same.upd ha)) (.cons (hv'.same (Same.upd ha)) .nil)))) ⟨nu, nu'⟩ (by simp only [Wi.deep]; omega) (hh4.same (Same.upd ha)) (s4.trans (Same.upd ha).b)
      | true => exact fin (.any u u') (.tup upd_same (.cons (.str _ (by decide +kernel)) (.cons (hv4.same (Same.upd ha)) (.cons (hv'.same (Same.upd ha)) .nil)))) ⟨nu, nu'⟩ (by simp only [Wi.deep]; omega) (hh4.same (Same.upd ha)) (s4.trans (Same.upd ha).b)
theorem okr_wish (T : Txt K mg t w) : ∀ n : Nat, FnOk P w K mg base CX0 (8 + n) t.f_l_wish t.d_l_wish ["_law_hand_here", "_law_names_here", "_law_deep_here"] (sp_l_wish n)
  | 0 => ((T.l_wish.F.okNo sc_l_wish).mono (by decide : 1 ≤ 8)).imp fun vs H Q E h => by
    obtain ⟨hd, sc, nl, ts, _, h1, _⟩ := h
    omega
  | n + 1 => (okA_wish T (okr_wish T n) (by omega)).mono (by omega)
def sp_l_wishA : Sp := fun vs H Q E => ∃ n : Nat, n ≤ 6 ∧ sp_l_wish n vs H Q E
theorem ok_l_wish (T : Txt K mg t w) : FnOk P w K mg base CX0 14 t.f_l_wish t.d_l_wish ["_law_hand_here", "_law_names_here", "_law_deep_here"] sp_l_wishA :=
  ⟨fun vs H Q E h => by
    obtain ⟨n, _, h⟩ := h
    exact (okr_wish (P := P) (w := w) (base := base) T n).len vs H Q E h, fun A outer s H args us vs Q E hr e b r h => by
    obtain ⟨n, hn, h⟩ := h
    exact ((okr_wish T n).mono (by omega : 8 + n ≤ 14)).run A outer s H args us vs Q E hr e b r h⟩
theorem pu_intB {σ : L2.St} {H : Hp} {t : TA} {b : Bool} (ha : PuA t σ H [.bl b]) : Pu (tCB (fun xs H Q => (∃ i, xs = [.int i] ∧ Q (.int i) H) ∨ ∃ k, xs = [.bl k] ∧ Q (.int (if k then 1 else 0)) H) t) σ H (.int (if b then 1 else 0)) := fun _ q => ha _ (.inr ⟨b, rfl, q⟩)
def sp_l_holds (n : Nat) : Sp := fun vs H Q _ => ∃ hd v u d rs, vs = [v, .ref d] ∧ DAt hd H v (Wi.d u) ∧ u.deep ≤ n ∧ H d = some (.dK (kvR rs)) ∧ rs.length ≤ 1000 ∧ (rs.map (·.1)).Nodup ∧ ∀ H', Same H H' → Q (.bl (ev rs u)) H'
theorem sc_l_holds : FnScope ["_law_wish_here", "_law_rounds", "_law_many", "_law_name_here", "_law_one"] ["_law_wish_here", "_law_rounds"] (defScope s_l_holds) := ⟨rfl, rfl, rfl, by decide +kernel, rfl, by decide +kernel, by decide +kernel⟩
theorem okA_holds (T : Txt K mg t w) {n k : Nat} (GP : FnOk P w K mg base CX0 k t.f_l_holds t.d_l_holds ["_law_wish_here", "_law_rounds"] (sp_l_holds n)) (hk : 5 ≤ k) : FnOk P w K mg base CX0 (k + 1) t.f_l_holds t.d_l_holds ["_law_wish_here", "_law_rounds"] (sp_l_holds (n + 1)) := by
  have ok_l_holds := fun (_ : Txt K mg t w) => GP
  refine T.l_holds.F.ok (k := k) sc_l_holds (fun vs H Q E h => ?_) (fun cdv A outer s H vs Q E hr h => ?_)
  · obtain ⟨hd, v, u, d, rs, rfl, _⟩ := h
    rfl
  · obtain ⟨hd, v, u, d, rs, rfl, hv, dp, hd', hz, nd, k⟩ := h
    refine ⟨_, (@pss_cons _ _ _ _ _ (@ps_if _ _ _ _ _ _ _ _ (@pt_cmpR _ _ _ _ _ _ _ _ op_eq (@pe_ix _ _ _ _ _ _ _ ix_tup (pv 0) (@pe_int _ _ _ _) (fun _ _ => rfl)) (@pe_str _ _ _ _) (nomark _)) (@pss_one _ _ _ (@ps_ret _ _ _ _ (@pe_cmpR _ _ _ _ _ _ _ _ op_ne (pe_dget2 (hu_of hr) (pv 1) (@pe_ix _ _ _ _ _ _ _ ix_tup (pv 0) (@pe_int _ _ _ _) (fun _ _ => rfl)) (@pe_int _ _ _ _) (M2.mk rfl rfl rfl rfl)) (@pe_int _ _ _ _) (nomark _)))) (@pss_nil _)) (@pss_cons _ _ _ _ _ (@ps_if _ _ _ _ _ _ _ _ (@pt_cmpR _ _ _ _ _ _ _ _ op_eq (@pe_ix _ _ _ _ _ _ _ ix_tup (pv 0) (@pe_int _ _ _ _) (fun _ _ => rfl)) (@pe_str _ _ _ _) (nomark _)) (@pss_one _ _ _ (@ps_ret _ _ _ _ (@pe_cmpR _ _ _ _ _ _ _ _ op_eq (pe_dget2 (hu_of hr) (pv 1) (@pe_ix _ _ _ _ _ _ _ ix_tup (pv 0) (@pe_int _ _ _ _) (fun _ _ => rfl)) (@pe_int _ _ _ _) (M2.mk rfl rfl rfl rfl)) (@pe_ix _ _ _ _ _ _ _ ix_tup (pv 0) (@pe_int _ _ _ _) (fun _ _ => rfl)) (nomark _)))) (@pss_nil _)) (@pss_cons _ _ _ _ _ (@ps_if _ _ _ _ _ _ _ _ (@pt_cmpR _ _ _ _ _ _ _ _ op_eq (@pe_ix _ _ _ _ _ _ _ ix_tup (pv 0) (@pe_int _ _ _ _) (fun _ _ => rfl)) (@pe_str _ _ _ _) (nomark _)) (@pss_cons _ _ _ _ _ (@ps_set _ _ 2 _ _ _ _ sc_l_holds.nd rfl (Or.inl rfl) (@pe_int _ _ _ _) (by rfl) (by first | exact .inl rfl | exact .inr rfl | assumption)) (@pss_cons _ _ _ _ _ (ps_thaw (@ps_for _ _ _ _ _ _ _ _ PassesOwn.never rfl (pi_keysF (pv 1)) (@pg_name _ _ 3 _ sc_l_holds.nd rfl (Or.inl rfl) (by first | exact .inl rfl | exact .inr rfl | assumption)) (@pss_one _ _ _ (@ps_aug _ _ 2 _ _ _ _ _ _ sc_l_holds.nd rfl (Or.inl rfl) (@pe_callTy _ _ _ _ _ _ _ _ _ call_int1 (by rfl) T.b_int PyProof.Rows.boot_int (@pa_cons _ _ _ _ _ (@pe_cmpR _ _ _ _ _ _ _ _ op_ne (pe_dget (hu_of hr) (pv 1) (pv 3) (fun _ _ => rfl)) (@pe_int _ _ _ _) (nomark _)) (@pa_nil _) star_cmp) (by decide) (by decide) (by rfl) (by rfl)) ip_add (by first | exact .inl rfl | exact .inr rfl | assumption))) (by intro _; rfl))) (@pss_one _ _ _ (@ps_ret _ _ _ _ (@pe_cmpR _ _ _ _ _ _ _ _ op_ge (pv 2) (@pe_ix _ _ _ _ _ _ _ ix_tup (pv 0) (@pe_int _ _ _ _) (fun _ _ => rfl)) (nomark _)))))) (@pss_nil _)) (@pss_cons _ _ _ _ _ (@ps_set _ _ 4 _ _ _ _ sc_l_holds.nd rfl (Or.inl rfl) (@pe_fn _ _ _ _ _ _ _ _ _ _ _ _ _ _ T.l_holds (ok_l_holds T) hr (by omega) (@pa_cons _ _ _ _ _ (@pe_ix _ _ _ _ _ _ _ ix_tup (pv 0) (@pe_int _ _ _ _) (fun _ _ => rfl)) (@pa_cons _ _ _ _ _ (pv 1) (@pa_nil _) star_name) star_sub) (by rfl) (by decide) (by rfl) (by rfl)) (by rfl) (by first | exact .inl rfl | exact .inr rfl | assumption)) (@pss_cons _ _ _ _ _ (@ps_if _ _ _ _ _ _ _ _ (@pt_cmpR _ _ _ _ _ _ _ _ op_eq (@pe_ix _ _ _ _ _ _ _ ix_tup (pv 0) (@pe_int _ _ _ _) (fun _ _ => rfl)) (@pe_str _ _ _ _) (nomark _)) (@pss_one _ _ _ (@ps_ret _ _ _ _ (@pe_not _ _ _ _ (pv 4)))) (@pss_nil _)) (@pss_cons _ _ _ _ _ (@ps_if _ _ _ _ _ _ _ _ (@pt_cmpR _ _ _ _ _ _ _ _ op_eq (@pe_ix _ _ _ _ _ _ _ ix_tup (pv 0) (@pe_int _ _ _ _) (fun _ _ => rfl)) (@pe_str _ _ _ _) (nomark _)) (@pss_one _ _ _ (@ps_ret _ _ _ _ (@pe_and _ _ _ _ _ _ _ (pv 4) (@pe_one _ _ _ _ _ (@pe_fn _ _ _ _ _ _ _ _ _ _ _ _ _ _ T.l_holds (ok_l_holds T) hr (by omega) (@pa_cons _ _ _ _ _ (@pe_ix _ _ _ _ _ _ _ ix_tup (pv 0) (@pe_int _ _ _ _) (fun _ _ => rfl)) (@pa_cons _ _ _ _ _ (pv 1) (@pa_nil _) star_name) star_sub) (by rfl) (by decide) (by rfl) (by rfl)))))) (@pss_nil _)) (@pss_one _ _ _ (@ps_ret _ _ _ _ (@pe_or _ _ _ _ _ _ _ (pv 4) (@pe_one _ _ _ _ _ (@pe_fn _ _ _ _ _ _ _ _ _ _ _ _ _ _ T.l_holds (ok_l_holds T) hr (by omega) (@pa_cons _ _ _ _ _ (@pe_ix _ _ _ _ _ _ _ ix_tup (pv 0) (@pe_int _ _ _ _) (fun _ _ => rfl)) (@pa_cons _ _ _ _ _ (pv 1) (@pa_nil _) star_name) star_sub) (by rfl) (by decide) (by rfl) (by rfl)))))))))))), ?_⟩
    have RC : ∀ {u' : Wi} {y : V} {H1 : Hp} {σ : L2.St} {t : TA}, DAt hd H y u'.d → u'.deep ≤ n → Same H H1 → PuA t σ H1 [y, .ref d] → Gv (tCall (sp_l_holds n) [] E0 t) σ H1 (fun v H' => v = .bl (ev rs u') ∧ Same H H') := fun {u' y H1 σ t} hy du s1 ha => gv_call ha fun Q q => ⟨hd, y, u', d, rs, rfl, hy.same s1, du, s1 _ _ hd', hz, nd, fun H' s => q _ _ ⟨rfl, s1.trans s⟩⟩
    cases u with
    | inn x =>
      cases hv with
      | tup h td =>
      cases td with
      | cons h0 td =>
      cases h0
      cases td with
      | cons h1 td =>
      cases h1
      cases td
      refine st_ifN (pt_t (pu_eqStr (pu_ixT (pu_v rfl) pu_c (SqT.of h) at0) pu_c)) (fun _ => ?_) (fun e => absurd e (by decide +kernel))
      exact st_ret (pu_neI (pu_getR (pu_v rfl) hd' (pu_ixT (pu_v rfl) pu_c (SqT.of h) at1) pu_c) pu_c) (k _ Same.rfl')
    | rnd x z =>
      cases hv with
      | tup h td =>
      cases td with
      | cons h0 td =>
      cases h0
      cases td with
      | cons h1 td =>
      cases h1
      cases td with
      | cons h2 td =>
      cases h2
      cases td
      refine st_ifN (pt_t (pu_eqStr (pu_ixT (pu_v rfl) pu_c (SqT.of h) at0) pu_c)) (fun e => absurd e (by decide +kernel)) (fun _ => ?_)
      refine st_ifN (pt_t (pu_eqStr (pu_ixT (pu_v rfl) pu_c (SqT.of h) at0) pu_c)) (fun _ => ?_) (fun e => absurd e (by decide +kernel))
      exact st_ret (pu_eqI (pu_getR (pu_v rfl) hd' (pu_ixT (pu_v rfl) pu_c (SqT.of h) at1) pu_c) (pu_ixT (pu_v rfl) pu_c (SqT.of h) at2)) (k _ Same.rfl')
    | lst z =>
      cases hv with
      | @tup a _ _ h td =>
      cases td with
      | cons h0 td =>
      cases h0
      cases td with
      | cons h1 td =>
      cases h1
      cases td
      refine st_ifN (pt_t (pu_eqStr (pu_ixT (pu_v rfl) pu_c (SqT.of h) at0) pu_c)) (fun e => absurd e (by decide +kernel)) (fun _ => ?_)
      refine st_ifN (pt_t (pu_eqStr (pu_ixT (pu_v rfl) pu_c (SqT.of h) at0) pu_c)) (fun e => absurd e (by decide +kernel)) (fun _ => ?_)
      refine st_ifN (pt_t (pu_eqStr (pu_ixT (pu_v rfl) pu_c (SqT.of h) at0) pu_c)) (fun _ => ?_) (fun e => absurd e (by decide +kernel))
      refine st_set pu_c ?_
      refine st_keysR (rs := rs) (pu_v rfl) hd' (fun o i σ H' => H' = upd H d (.frz o (.dK (kvR rs))) ∧ ∃ y : Option V, σ = [some (.ref a), some (.ref d), some (.int ((cntR (rs.take i) : Nat) : Int)), y, none]) (fun o => ⟨rfl, none, rfl⟩) (fun o i σ H' e => by rw [e.1, upd_same]) ?_ ?_
      · rintro o i p σ _ D' hD' hp ⟨rfl, y, rfl⟩
        have cs := cntR_snoc rs hp
        refine st_inc1 (a := ((cntR (rs.take i) : Nat) : Int)) (b := if p.2 = 0 then 0 else 1) rfl ?_ ?_
        · refine pu_cast (pu_intB (pa_c (pu_neI (pu_atR (rs := rs) (pu_v rfl) upd_same (pu_v rfl) (find_nd nd hp)) pu_c) pa_n)) ?_
          by_cases e : p.2 = 0 <;> simp [e]
        · rw [hD']
          refine ⟨rfl, some (.str p.1), ?_⟩
          rw [cs]
          by_cases e : p.2 = 0 <;> simp [e]
      · rintro o σ _ ⟨rfl, y, rfl⟩
        rw [upd_upd, upd_self hd', List.take_length]
        exact st_ret (pu_ge (pu_v rfl) (pu_ixT (pu_v rfl) pu_c (SqT.of h) at1)) (k _ Same.rfl')
    | no u =>
      have du : u.deep ≤ n := by simp only [Wi.deep] at dp; omega
      cases hv with
      | tup h td =>
      cases td with
      | cons h0 td =>
      cases h0
      cases td with
      | cons h1 td =>
      cases td
      refine st_ifN (pt_t (pu_eqStr (pu_ixT (pu_v rfl) pu_c (SqT.of h) at0) pu_c)) (fun e => absurd e (by decide +kernel)) (fun _ => ?_)
      refine st_ifN (pt_t (pu_eqStr (pu_ixT (pu_v rfl) pu_c (SqT.of h) at0) pu_c)) (fun e => absurd e (by decide +kernel)) (fun _ => ?_)
      refine st_ifN (pt_t (pu_eqStr (pu_ixT (pu_v rfl) pu_c (SqT.of h) at0) pu_c)) (fun e => absurd e (by decide +kernel)) (fun _ => ?_)
      refine st_setG (RC h1 du Same.rfl' (pa_c (pu_ixT (pu_v rfl) pu_c (SqT.of h) at1) (pa_c (pu_v rfl) pa_n))) ?_
      rintro _ H1 ⟨rfl, s1⟩
      have h' := s1 _ _ h
      refine st_ifN (pt_t (pu_eqStr (pu_ixT (pu_v rfl) pu_c (SqT.of h') at0) pu_c)) (fun _ => ?_) (fun e => absurd e (by decide +kernel))
      exact st_ret (pu_not (pu_v rfl)) (k _ s1)
    | both a b =>
      have da : a.deep ≤ n := by simp only [Wi.deep] at dp; omega
      have db : b.deep ≤ n := by simp only [Wi.deep] at dp; omega
      cases hv with
      | tup h td =>
      cases td with
      | cons h0 td =>
      cases h0
      cases td with
      | cons h1 td =>
      cases td with
      | cons h2 td =>
      cases td
      refine st_ifN (pt_t (pu_eqStr (pu_ixT (pu_v rfl) pu_c (SqT.of h) at0) pu_c)) (fun e => absurd e (by decide +kernel)) (fun _ => ?_)
      refine st_ifN (pt_t (pu_eqStr (pu_ixT (pu_v rfl) pu_c (SqT.of h) at0) pu_c)) (fun e => absurd e (by decide +kernel)) (fun _ => ?_)
      refine st_ifN (pt_t (pu_eqStr (pu_ixT (pu_v rfl) pu_c (SqT.of h) at0) pu_c)) (fun e => absurd e (by decide +kernel)) (fun _ => ?_)
      refine st_setG (RC h1 da Same.rfl' (pa_c (pu_ixT (pu_v rfl) pu_c (SqT.of h) at1) (pa_c (pu_v rfl) pa_n))) ?_
      rintro _ H1 ⟨rfl, s1⟩
      have h' := s1 _ _ h
      refine st_ifN (pt_t (pu_eqStr (pu_ixT (pu_v rfl) pu_c (SqT.of h') at0) pu_c)) (fun e => absurd e (by decide +kernel)) (fun _ => ?_)
      refine st_ifN (pt_t (pu_eqStr (pu_ixT (pu_v rfl) pu_c (SqT.of h') at0) pu_c)) (fun _ => ?_) (fun e => absurd e (by decide +kernel))
      refine st_retG (R := fun v H' => v = .bl (ev rs a && ev rs b) ∧ Same H H') (gv_andG (Pu.gv (v := .bl (ev rs a)) (pu_v rfl)) ?_) fun _ H' e => by obtain ⟨rfl, s⟩ := e; exact k H' s
      rintro _ _ ⟨rfl, rfl⟩
      refine ⟨_, rfl, fun e => ?_, fun e => ⟨by rw [e]; rfl, s1⟩⟩
      rw [e]
      exact RC h2 db s1 (pa_c (pu_ixT (pu_v rfl) pu_c (SqT.of h') at2) (pa_c (pu_v rfl) pa_n))
    | any a b =>
      have da : a.deep ≤ n := by simp only [Wi.deep] at dp; omega
      have db : b.deep ≤ n := by simp only [Wi.deep] at dp; omega
      cases hv with
      | tup h td =>
      cases td with
      | cons h0 td =>
      cases h0
      cases td with
      | cons h1 td =>
      cases td with
      | cons h2 td =>
      cases td
      refine st_ifN (pt_t (pu_eqStr (pu_ixT (pu_v rfl) pu_c (SqT.of h) at0) pu_c)) (fun e => absurd e (by decide +kernel)) (fun _ => ?_)
      refine st_ifN (pt_t (pu_eqStr (pu_ixT (pu_v rfl) pu_c (SqT.of h) at0) pu_c)) (fun e => absurd e (by decide +kernel)) (fun _ => ?_)
      refine st_ifN (pt_t (pu_eqStr (pu_ixT (pu_v rfl) pu_c (SqT.of h) at0) pu_c)) (fun e => absurd e (by decide +kernel)) (fun _ => ?_)
      refine st_setG (RC h1 da Same.rfl' (pa_c (pu_ixT (pu_v rfl) pu_c (SqT.of h) at1) (pa_c (pu_v rfl) pa_n))) ?_
      rintro _ H1 ⟨rfl, s1⟩
      have h' := s1 _ _ h
      refine st_ifN (pt_t (pu_eqStr (pu_ixT (pu_v rfl) pu_c (SqT.of h') at0) pu_c)) (fun e => absurd e (by decide +kernel)) (fun _ => ?_)
      refine st_ifN (pt_t (pu_eqStr (pu_ixT (pu_v rfl) pu_c (SqT.of h') at0) pu_c)) (fun e => absurd e (by decide +kernel)) (fun _ => ?_)
      refine st_retG (R := fun v H' => v = .bl (ev rs a || ev rs b) ∧ Same H H') (gv_orG (Pu.gv (v := .bl (ev rs a)) (pu_v rfl)) ?_) fun _ H' e => by obtain ⟨rfl, s⟩ := e; exact k H' s
      rintro _ _ ⟨rfl, rfl⟩
      refine ⟨_, rfl, fun e => ?_, fun e => ⟨by rw [e]; rfl, s1⟩⟩
      rw [e]
      exact RC h2 db s1 (pa_c (pu_ixT (pu_v rfl) pu_c (SqT.of h') at2) (pa_c (pu_v rfl) pa_n))
theorem okr_holds (T : Txt K mg t w) : ∀ n : Nat, FnOk P w K mg base CX0 (5 + n) t.f_l_holds t.d_l_holds ["_law_wish_here", "_law_rounds"] (sp_l_holds n)
  | 0 => ((T.l_holds.F.okNo sc_l_holds).mono (by decide : 1 ≤ 5)).imp fun vs H Q E h => by
    obtain ⟨hd, v, u, d, rs, _, _, dp, _⟩ := h
    have := u.deep_pos
    omega
  | n + 1 => (okA_holds T (okr_holds T n) (by omega)).mono (by omega)
theorem ok_l_holds (T : Txt K mg t w) : FnOk P w K mg base CX0 11 t.f_l_holds t.d_l_holds ["_law_wish_here", "_law_rounds"] (sp_l_holds 6) := okr_holds T 6
def sp_l_deep (n : Nat) : Sp := fun vs H Q _ => ∃ hd v u, vs = [v] ∧ DAt hd H v (Wi.d u) ∧ u.deep ≤ n ∧ ∀ H', Same H H' → Q (.int (u.deep : Nat)) H'
theorem sc_l_deep : FnScope ["_law_wish_here"] ["_law_wish_here"] (defScope s_l_deep) := ⟨rfl, rfl, rfl, by decide +kernel, rfl, by decide +kernel, by decide +kernel⟩
theorem gv_maxG {σ : L2.St} {H : Hp} {ta tb : TE} {R1 R : V → Hp → Prop} {R2 : V → V → Hp → Prop} (ha : Gv ta σ H R1) (hb : ∀ v H1, R1 v H1 → Gv tb σ H1 (R2 v)) (hr : ∀ v w H2, R2 v w H2 → ∃ i j : Int, v = .int i ∧ w = .int j ∧ R (.int (if j > i then j else i)) H2) : Gv (tCB (fun xs H Q => ∃ i j, xs = [.int i, .int j] ∧ Q (.int (if j > i then j else i)) H) (tCons ta (tCons tb tNil))) σ H R := by
  intro Q q
  show tCons ta (tCons tb tNil) σ H _
  exact ha _ fun v H1 r1 => hb v H1 r1 _ fun w H2 r2 => by
    obtain ⟨i, j, rfl, rfl, h⟩ := hr v w H2 r2
    exact ⟨i, j, rfl, q _ _ h⟩
theorem pu_cast' {σ : L2.St} {H : Hp} {t : TT} {b c : Bool} (h : PuT t σ H b) (e : b = c) : PuT t σ H c := e ▸ h
theorem gv_add1 {σ : L2.St} {H : Hp} {tb : TE} {i : Int} {R : Hp → Prop} (hb : Gv tb σ H (fun v H' => v = .int i ∧ R H')) : Gv (tOp (rI0 fun i j => .int (i + j)) (tC (.int 1)) tb) σ H (fun v H' => v = .int (1 + i) ∧ R H') := fun Q q => pu_c (v := .int 1) _ (hb _ fun v H' r => by
  obtain ⟨rfl, s⟩ := r
  exact ⟨1, i, rfl, rfl, q _ _ ⟨rfl, s⟩⟩)
theorem okA_deep (T : Txt K mg t w) {n k : Nat} (GP : FnOk P w K mg base CX0 k t.f_l_deep t.d_l_deep ["_law_wish_here"] (sp_l_deep n)) (hk : 5 ≤ k) : FnOk P w K mg base CX0 (k + 1) t.f_l_deep t.d_l_deep ["_law_wish_here"] (sp_l_deep (n + 1)) := by
  have ok_l_deep := fun (_ : Txt K mg t w) => GP
  refine T.l_deep.F.ok (k := k) sc_l_deep (fun vs H Q E h => ?_) (fun cdv A outer s H vs Q E hr h => ?_)
  · obtain ⟨hd, v, u, rfl, _⟩ := h
    rfl
  · obtain ⟨hd, v, u, rfl, hv, dp, k⟩ := h
    refine ⟨_, (@pss_cons _ _ _ _ _ (@ps_if _ _ _ _ _ _ _ _ (@pt_cmpR _ _ _ _ _ _ _ _ op_eq (@pe_ix _ _ _ _ _ _ _ ix_tup (pv 0) (@pe_int _ _ _ _) (fun _ _ => rfl)) (@pe_str _ _ _ _) (nomark _)) (@pss_one _ _ _ (@ps_ret _ _ _ _ (@pe_op _ _ _ _ _ _ _ _ op_add (@pe_int _ _ _ _) (@pe_fn _ _ _ _ _ _ _ _ _ _ _ _ _ _ T.l_deep (ok_l_deep T) hr (by omega) (@pa_cons _ _ _ _ _ (@pe_ix _ _ _ _ _ _ _ ix_tup (pv 0) (@pe_int _ _ _ _) (fun _ _ => rfl)) (@pa_nil _) star_sub) (by rfl) (by decide) (by rfl) (by rfl))))) (@pss_nil _)) (@pss_cons _ _ _ _ _ (@ps_if _ _ _ _ _ _ _ _ (PW.pt (@pw_or _ _ _ _ _ _ _ (@pt_cmpR _ _ _ _ _ _ _ _ op_eq (@pe_ix _ _ _ _ _ _ _ ix_tup (pv 0) (@pe_int _ _ _ _) (fun _ _ => rfl)) (@pe_str _ _ _ _) (nomark _)) (@pw_or1 _ _ _ _ (@pt_cmpR _ _ _ _ _ _ _ _ op_eq (@pe_ix _ _ _ _ _ _ _ ix_tup (pv 0) (@pe_int _ _ _ _) (fun _ _ => rfl)) (@pe_str _ _ _ _) (nomark _))))) (@pss_one _ _ _ (@ps_ret _ _ _ _ (@pe_op _ _ _ _ _ _ _ _ op_add (@pe_int _ _ _ _) (@pe_callB _ _ _ _ _ _ _ _ _ (call_max2 rfl) (by rfl) T.b_max PyProof.Rows.boot_max (@pa_cons _ _ _ _ _ (@pe_fn _ _ _ _ _ _ _ _ _ _ _ _ _ _ T.l_deep (ok_l_deep T) hr (by omega) (@pa_cons _ _ _ _ _ (@pe_ix _ _ _ _ _ _ _ ix_tup (pv 0) (@pe_int _ _ _ _) (fun _ _ => rfl)) (@pa_nil _) star_sub) (by rfl) (by decide) (by rfl) (by rfl)) (@pa_cons _ _ _ _ _ (@pe_fn _ _ _ _ _ _ _ _ _ _ _ _ _ _ T.l_deep (ok_l_deep T) hr (by omega) (@pa_cons _ _ _ _ _ (@pe_ix _ _ _ _ _ _ _ ix_tup (pv 0) (@pe_int _ _ _ _) (fun _ _ => rfl)) (@pa_nil _) star_sub) (by rfl) (by decide) (by rfl) (by rfl)) (@pa_nil _) star_call) star_call) (by decide) (by decide) (by rfl) (by rfl))))) (@pss_nil _)) (@pss_one _ _ _ (@ps_ret _ _ _ _ (@pe_int _ _ _ _))))), ?_⟩
    have RC : ∀ {u' : Wi} {y : V} {H1 : Hp} {σ : L2.St} {t : TA}, DAt hd H y u'.d → u'.deep ≤ n → Same H H1 → PuA t σ H1 [y] → Gv (tCall (sp_l_deep n) [] E0 t) σ H1 (fun v H' => v = .int (u'.deep : Nat) ∧ Same H H') := fun {u' y H1 σ t} hy du s1 ha => gv_call ha fun Q q => ⟨hd, y, u', rfl, hy.same s1, du, fun H' s => q _ _ ⟨rfl, s1.trans s⟩⟩
    have plain : ∀ {a : Addr} {x : Str} {xs : List V}, H a = some (.tup (.str x :: xs)) → v = .ref a → decide (x = Str.ofString "no") = false → decide (x = Str.ofString "both") = false → decide (x = Str.ofString "any") = false → (∀ H', Same H H' → Q (.int 1) H') → tSeq (tIfS (tTest (tOp rEq (tOp (rIxT K) (tVar 0) (tC (.int 0))) (tC (.str (Str.ofString "no"))))) (tRet (tOp (rI0 fun i j => .int (i + j)) (tC (.int 1)) (tCall (sp_l_deep n) [] E0 (tCons (tOp (rIxT K) (tVar 0) (tC (.int 1))) tNil)))) tNext) (tSeq (tIfS (tOr (tTest (tOp rEq (tOp (rIxT K) (tVar 0) (tC (.int 0))) (tC (.str (Str.ofString "both"))))) (tTest (tOp rEq (tOp (rIxT K) (tVar 0) (tC (.int 0))) (tC (.str (Str.ofString "any")))))) (tRet (tOp (rI0 fun i j => .int (i + j)) (tC (.int 1)) (tCB (fun xs H Q => ∃ i j, xs = [.int i, .int j] ∧ Q (.int (if j > i then j else i)) H) (tCons (tCall (sp_l_deep n) [] E0 (tCons (tOp (rIxT K) (tVar 0) (tC (.int 1))) tNil)) (tCons (tCall (sp_l_deep n) [] E0 (tCons (tOp (rIxT K) (tVar 0) (tC (.int 2))) tNil)) tNil))))) tNext) (tRet (tC (.int 1)))) { nx := fun _ H' => Q .non H', rt := Q } [some v] H := fun {a x xs} h e e1 e2 e3 kk => by
      subst e
      refine st_ifN (pt_t (pu_eqStr (pu_ixT (pu_v rfl) pu_c (SqT.of h) at0) pu_c)) (fun e => by rw [e1] at e; cases e) (fun _ => ?_)
      refine st_ifN (pt_or (pt_t (pu_eqStr (pu_ixT (pu_v rfl) pu_c (SqT.of h) at0) pu_c)) fun _ => pt_t (pu_eqStr (pu_ixT (pu_v rfl) pu_c (SqT.of h) at0) pu_c)) (fun e => by rw [e2, e3] at e; cases e) (fun _ => ?_)
      exact st_ret pu_c (kk _ Same.rfl')
    cases u with
    | inn x =>
      cases hv with
      | tup h td =>
      cases td with
      | cons h0 td =>
      cases h0
      exact plain h rfl (by decide +kernel) (by decide +kernel) (by decide +kernel) k
    | rnd x z =>
      cases hv with
      | tup h td =>
      cases td with
      | cons h0 td =>
      cases h0
      exact plain h rfl (by decide +kernel) (by decide +kernel) (by decide +kernel) k
    | lst z =>
      cases hv with
      | tup h td =>
      cases td with
      | cons h0 td =>
      cases h0
      exact plain h rfl (by decide +kernel) (by decide +kernel) (by decide +kernel) k
    | no u =>
      have du : u.deep ≤ n := by simp only [Wi.deep] at dp; omega
      cases hv with
      | tup h td =>
      cases td with
      | cons h0 td =>
      cases h0
      cases td with
      | cons h1 td =>
      cases td
      refine st_ifN (pt_t (pu_eqStr (pu_ixT (pu_v rfl) pu_c (SqT.of h) at0) pu_c)) (fun _ => ?_) (fun e => absurd e (by decide +kernel))
      refine st_retG (gv_add1 (RC h1 du Same.rfl' (pa_c (pu_ixT (pu_v rfl) pu_c (SqT.of h) at1) pa_n))) fun _ H' e => ?_
      obtain ⟨rfl, s⟩ := e
      rw [show (1 + ((u.deep : Nat) : Int)) = (((Wi.no u).deep : Nat) : Int) by simp only [Wi.deep]; omega]
      exact k H' s
    | both a b =>
      have da : a.deep ≤ n := by simp only [Wi.deep] at dp; omega
      have db : b.deep ≤ n := by simp only [Wi.deep] at dp; omega
      cases hv with
      | tup h td =>
      cases td with
      | cons h0 td =>
      cases h0
      cases td with
      | cons h1 td =>
      cases td with
      | cons h2 td =>
      cases td
      refine st_ifN (pt_t (pu_eqStr (pu_ixT (pu_v rfl) pu_c (SqT.of h) at0) pu_c)) (fun e => absurd e (by decide +kernel)) (fun _ => ?_)
      refine st_ifN (b := true) (pt_or (b := true) (c := true) (pu_cast' (pt_t (pu_eqStr (pu_ixT (pu_v rfl) pu_c (SqT.of h) at0) pu_c)) (by decide +kernel)) (fun e => by cases e)) (fun _ => ?_) (fun e => by cases e)
      refine st_retG (gv_add1 (i := ((max a.deep b.deep : Nat) : Int)) (R := fun H' => Same H H') (gv_maxG (RC h1 da Same.rfl' (pa_c (pu_ixT (pu_v rfl) pu_c (SqT.of h) at1) pa_n)) (R2 := fun v w H' => v = .int (a.deep : Nat) ∧ w = .int (b.deep : Nat) ∧ Same H H') (fun v H1 e => (RC h2 db e.2 (pa_c (pu_ixT (pu_v rfl) pu_c (SqT.of (e.2 _ _ h)) at2) pa_n)).imp fun w H2 z => ⟨e.1, z.1, z.2⟩) ?_)) fun _ H' e => ?_
      · rintro _ _ H2 ⟨rfl, rfl, s2⟩
        refine ⟨_, _, rfl, rfl, ?_, s2⟩
        congr 1
        split <;> omega
      · obtain ⟨rfl, s⟩ := e
        rw [show (1 + ((max a.deep b.deep : Nat) : Int)) = (((Wi.both a b).deep : Nat) : Int) by simp only [Wi.deep]; omega]
        exact k H' s
    | any a b =>
      have da : a.deep ≤ n := by simp only [Wi.deep] at dp; omega
      have db : b.deep ≤ n := by simp only [Wi.deep] at dp; omega
      cases hv with
      | tup h td =>
      cases td with
      | cons h0 td =>
      cases h0
      cases td with
      | cons h1 td =>
      cases td with
      | cons h2 td =>
      cases td
      refine st_ifN (pt_t (pu_eqStr (pu_ixT (pu_v rfl) pu_c (SqT.of h) at0) pu_c)) (fun e => absurd e (by decide +kernel)) (fun _ => ?_)
      refine st_ifN (b := true) (pt_or (b := false) (c := true) (pu_cast' (pt_t (pu_eqStr (pu_ixT (pu_v rfl) pu_c (SqT.of h) at0) pu_c)) (by decide +kernel)) (fun _ => pu_cast' (pt_t (pu_eqStr (pu_ixT (pu_v rfl) pu_c (SqT.of h) at0) pu_c)) (by decide +kernel))) (fun _ => ?_) (fun e => by cases e)
      refine st_retG (gv_add1 (i := ((max a.deep b.deep : Nat) : Int)) (R := fun H' => Same H H') (gv_maxG (RC h1 da Same.rfl' (pa_c (pu_ixT (pu_v rfl) pu_c (SqT.of h) at1) pa_n)) (R2 := fun v w H' => v = .int (a.deep : Nat) ∧ w = .int (b.deep : Nat) ∧ Same H H') (fun v H1 e => (RC h2 db e.2 (pa_c (pu_ixT (pu_v rfl) pu_c (SqT.of (e.2 _ _ h)) at2) pa_n)).imp fun w H2 z => ⟨e.1, z.1, z.2⟩) ?_)) fun _ H' e => ?_
      · rintro _ _ H2 ⟨rfl, rfl, s2⟩
        refine ⟨_, _, rfl, rfl, ?_, s2⟩
        congr 1
        split <;> omega
      · obtain ⟨rfl, s⟩ := e
        rw [show (1 + ((max a.deep b.deep : Nat) : Int)) = (((Wi.any a b).deep : Nat) : Int) by simp only [Wi.deep]; omega]
        exact k H' s
theorem okr_deep (T : Txt K mg t w) : ∀ n : Nat, FnOk P w K mg base CX0 (5 + n) t.f_l_deep t.d_l_deep ["_law_wish_here"] (sp_l_deep n)
  | 0 => ((T.l_deep.F.okNo sc_l_deep).mono (by decide : 1 ≤ 5)).imp fun vs H Q E h => by
    obtain ⟨hd, v, u, _, _, dp, _⟩ := h
    have := u.deep_pos
    omega
  | n + 1 => (okA_deep T (okr_deep T n) (by omega)).mono (by omega)
theorem ok_l_deep (T : Txt K mg t w) : FnOk P w K mg base CX0 11 t.f_l_deep t.d_l_deep ["_law_wish_here"] (sp_l_deep 6) := okr_deep T 6
def sp_l_wrapped : Sp := fun vs H Q _ => ∃ (hd sc : Addr) (v : V) (u : Wi), vs = [.ref hd, v, .int 6] ∧ HandAt H hd sc ∧ DAt hd H v u.d ∧ u.names ∧ u.deep ≤ 6 ∧ ∀ (v' : V) (u' : Wi) H', DAt hd H' v' u'.d → u'.names → u'.deep = 6 → HandAt H' hd sc → SameB hd H H' → Q v' H'
theorem sc_l_wrapped : FnScope ["_law_hand_here", "_law_wish_here", "_law_deep_here", "_law_k", "_law_way"] ["_law_hand_here", "_law_wish_here", "_law_deep_here"] (defScope s_l_wrapped) := ⟨rfl, rfl, rfl, by decide +kernel, rfl, by decide +kernel, by decide +kernel⟩
theorem ok_l_wrapped (T : Txt K mg t w) : FnOk P w K mg base CX0 12 t.f_l_wrapped t.d_l_wrapped ["_law_hand_here", "_law_wish_here", "_law_deep_here"] sp_l_wrapped := by
  refine T.l_wrapped.F.ok (k := 11) sc_l_wrapped (fun vs H Q E h => ?_) (fun cdv A outer s H vs Q E hr h => ?_)
  · obtain ⟨hd, sc, v, u, rfl, _⟩ := h
    rfl
  · obtain ⟨hd, sc, v, u, rfl, hh, hv, nn, dp, k⟩ := h
    refine ⟨_, (@pss_cons _ _ _ _ _ (@ps_for _ _ _ _ _ _ _ _ PassesOwn.never rfl (@pi_range1 _ _ _ _ _ _ rfl T.b_range (@pa_cons _ _ _ _ _ (@pe_op _ _ _ _ _ _ _ _ op_sub (pv 2) (@pe_fn _ _ _ _ _ _ _ _ _ _ _ _ _ _ T.l_deep (ok_l_deep T) hr (by decide) (@pa_cons _ _ _ _ _ (pv 1) (@pa_nil _) star_name) (by rfl) (by decide) (by rfl) (by rfl))) (@pa_nil _) star_bin) (by rfl)) (@pg_name _ _ 3 _ sc_l_wrapped.nd rfl (Or.inl rfl) (by first | exact .inl rfl | exact .inr rfl | assumption)) (@pss_cons _ _ _ _ _ (@ps_set _ _ 4 _ _ _ _ sc_l_wrapped.nd rfl (Or.inl rfl) (@pe_fn _ _ _ _ _ _ _ _ _ _ _ _ _ _ T.l_draw (ok_l_draw T) hr (by decide) (@pa_cons _ _ _ _ _ (pv 0) (@pa_cons _ _ _ _ _ (@pe_int _ _ _ _) (@pa_nil _) star_con) star_name) (by rfl) (by decide) (by rfl) (by rfl)) (by rfl) (by first | exact .inl rfl | exact .inr rfl | assumption)) (@pss_one _ _ _ (@ps_if _ _ _ _ _ _ _ _ (@pt_cmpR _ _ _ _ _ _ _ _ op_eq (pv 4) (@pe_int _ _ _ _) (nomark _)) (@pss_one _ _ _ (@ps_set _ _ 1 _ _ _ _ sc_l_wrapped.nd rfl (Or.inl rfl) (@pe_tup _ _ _ _ _ (@pa_cons _ _ _ _ _ (@pe_str _ _ _ _) (@pa_cons _ _ _ _ _ (pv 1) (@pa_nil _) star_name) star_con)) (by rfl) (by first | exact .inl rfl | exact .inr rfl | assumption))) (@pss_one _ _ _ (@ps_if _ _ _ _ _ _ _ _ (@pt_cmpR _ _ _ _ _ _ _ _ op_lt (pv 4) (@pe_int _ _ _ _) (nomark _)) (@pss_one _ _ _ (@ps_set _ _ 1 _ _ _ _ sc_l_wrapped.nd rfl (Or.inl rfl) (@pe_tup _ _ _ _ _ (@pa_cons _ _ _ _ _ (@pe_ix _ _ _ _ _ _ _ ix_list (@pe_lst _ _ _ _ (@pa_cons _ _ _ _ _ (@pe_str _ _ _ _) (@pa_cons _ _ _ _ _ (@pe_str _ _ _ _) (@pa_nil _) star_con) star_con)) (@pe_op _ _ _ _ _ _ _ _ op_sub (pv 4) (@pe_int _ _ _ _)) (fun _ _ => rfl)) (@pa_cons _ _ _ _ _ (pv 1) (@pa_cons _ _ _ _ _ (@pe_tup _ _ _ _ _ (@pa_cons _ _ _ _ _ (@pe_str _ _ _ _) (@pa_cons _ _ _ _ _ (@pe_fn _ _ _ _ _ _ _ _ _ _ _ _ _ _ T.l_draw (ok_l_draw T) hr (by decide) (@pa_cons _ _ _ _ _ (pv 0) (@pa_cons _ _ _ _ _ (@pe_int _ _ _ _) (@pa_nil _) star_con) star_name) (by rfl) (by decide) (by rfl) (by rfl)) (@pa_nil _) star_call) star_con)) (@pa_nil _) star_tup) star_name) star_sub)) (by rfl) (by first | exact .inl rfl | exact .inr rfl | assumption))) (@pss_one _ _ _ (@ps_set _ _ 1 _ _ _ _ sc_l_wrapped.nd rfl (Or.inl rfl) (@pe_tup _ _ _ _ _ (@pa_cons _ _ _ _ _ (@pe_ix _ _ _ _ _ _ _ ix_list (@pe_lst _ _ _ _ (@pa_cons _ _ _ _ _ (@pe_str _ _ _ _) (@pa_cons _ _ _ _ _ (@pe_str _ _ _ _) (@pa_nil _) star_con) star_con)) (@pe_op _ _ _ _ _ _ _ _ op_sub (pv 4) (@pe_int _ _ _ _)) (fun _ _ => rfl)) (@pa_cons _ _ _ _ _ (@pe_tup _ _ _ _ _ (@pa_cons _ _ _ _ _ (@pe_str _ _ _ _) (@pa_cons _ _ _ _ _ (@pe_fn _ _ _ _ _ _ _ _ _ _ _ _ _ _ T.l_draw (ok_l_draw T) hr (by decide) (@pa_cons _ _ _ _ _ (pv 0) (@pa_cons _ _ _ _ _ (@pe_int _ _ _ _) (@pa_nil _) star_con) star_name) (by rfl) (by decide) (by rfl) (by rfl)) (@pa_nil _) star_call) star_con)) (@pa_cons _ _ _ _ _ (pv 1) (@pa_nil _) star_name) star_tup) star_sub)) (by rfl) (by first | exact .inl rfl | exact .inr rfl | assumption)))))))) (by intro _; rfl)) (@pss_one _ _ _ (@ps_ret _ _ _ _ (pv 1)))), ?_⟩
    refine st_rangeG (ga_cons (R1 := fun v H' => v = .int (6 - (u.deep : Int)) ∧ Same H H') (fun Q q => pu_v (v := .int 6) rfl _ (gv_call (sp := sp_l_deep 6) (E := E0) (R := fun v H' => v = .int ((u.deep : Nat) : Int) ∧ Same H H') (pa_c (pu_v rfl) pa_n) (fun Q q => ⟨hd, v, u, rfl, hv, dp, fun H' s => q _ _ ⟨rfl, s⟩⟩) _ fun v' H' r => by
      obtain ⟨rfl, s'⟩ := r
      exact ⟨6, _, rfl, rfl, q _ _ ⟨rfl, s'⟩⟩)) fun _ _ _ => ga_nil) ?_
    rintro vs H6 ⟨_, _, r, rfl, ⟨rfl, s6⟩, rfl, rfl⟩
    have p0 := u.deep_pos
    refine ⟨6 - (u.deep : Int), rfl, by omega, by omega, fun j σ H' => HandAt H' hd sc ∧ SameB hd H H' ∧ ∃ (v : V) (u' : Wi) (y z : Option V), DAt hd H' v u'.d ∧ u'.names ∧ u'.deep = u.deep + j ∧ σ = [some (.ref hd), some v, some (.int 6), y, z], ⟨hh.same s6, s6.b, v, u, _, _, hv.same s6, nn, rfl, rfl⟩, ?_, ?_⟩
    · rintro j σ H1 hj ⟨hh1, s1, v1, u1, y, z, hv1, nn1, dp1, rfl⟩
      obtain ⟨ys1, hys1⟩ := hh1.ls
      refine st_setG (gv_draw hh1 (pa_c (pu_v rfl) (pa_c pu_c pa_n)) (by decide) Bd.small) ?_
      rintro _ H2 ⟨⟨m, rfl, m0, m5⟩, hh2, s2⟩
      obtain ⟨ys2, hys2⟩ := hh2.ls
      have hv2 := DAt.but hys1 s2 hv1
      have s12 := s1.trans s2
      -- ('least', draw 3)
      have LE : ∀ {H3 : Hp} {σ : L2.St}, σ[0]? = some (some (.ref hd)) → HandAt H3 hd sc → DAt hd H3 v1 u1.d → Gv (tTup (tCons (tC (.str (Str.ofString "least"))) (tCons (tCall sp_l_draw [] E0 (tCons (tVar 0) (tCons (tC (.int 3)) tNil))) tNil))) σ H3 (fun r H' => (∃ z : Int, DAt hd H' r (Wi.lst z).d) ∧ DAt hd H' v1 u1.d ∧ HandAt H' hd sc ∧ SameB hd H3 H') := fun {H3 σ} h0 hh3 hv3 => by
        obtain ⟨ys3, hys3⟩ := hh3.ls
        refine gv_tupA (RA := fun vs H' => ∃ z : Int, vs = [.str (Str.ofString "least"), .int z] ∧ DAt hd H' v1 u1.d ∧ HandAt H' hd sc ∧ SameB hd H3 H') (fun Q q => pu_c (v := .str (Str.ofString "least")) _ (gv_draw hh3 (pa_c (pu_v h0) (pa_c pu_c pa_n)) (by decide) Bd.small _ ?_)) ?_
        · rintro _ H4 ⟨⟨z, rfl, _, _⟩, hh4, s4⟩
          exact q _ _ ⟨z, rfl, DAt.but hys3 s4 hv3, hh4, s4⟩
        · rintro _ H4 ⟨z, rfl, hv4, hh4, s4⟩
          exact ⟨len2, fun a ha => ⟨⟨z, .tup upd_same (.cons (.str _ (by decide +kernel)) (.cons (.int z) .nil))⟩, hv4.same (Same.upd ha), hh4.same (Same.upd ha), s4.trans (Same.upd ha).b⟩⟩
      refine st_ifG1 (R := fun b H' => b = decide (m = 0) ∧ H2 = H') (PuT.gt (pt_t (pu_eqI (pu_v rfl) pu_c)) ⟨rfl, rfl⟩) (fun H' e => ?_) (fun H' e => ?_)
      · obtain ⟨_, rfl⟩ := e
        refine st_setG1 (gv_tup (pa_c pu_c (pa_c (pu_v rfl) pa_n)) len2) ?_
        rintro _ _ ⟨a, ha, rfl, rfl⟩
        exact ⟨hh2.same (Same.upd ha), s12.trans (Same.upd ha).b, .ref a, .no u1, _, _, .tup upd_same (.cons (.str _ (by decide +kernel)) (.cons (hv2.same (Same.upd ha)) .nil)), nn1, by simp only [Wi.deep]; omega, rfl⟩
      obtain ⟨e, rfl⟩ := e
      have c0 := of_decide_eq_false e.symm
      refine st_ifG1 (R := fun b H' => b = decide (m < 3) ∧ H2 = H') (PuT.gt (pt_t (pu_lt (pu_v rfl) pu_c)) ⟨rfl, rfl⟩) (fun H' e => ?_) (fun H' e => ?_)
      · obtain ⟨e, rfl⟩ := e
        have c1 := of_decide_eq_true e.symm
        refine st_setG1 (R := fun r H' => ∃ u' : Wi, DAt hd H' r u'.d ∧ u'.names ∧ u'.deep = u.deep + (j + 1) ∧ HandAt H' hd sc ∧ SameB hd H H') (gv_tupA (RA := fun vs H' => ∃ (b : Bool) (r : V) (z : Int), vs = [.str (if b then Str.ofString "any" else Str.ofString "both"), v1, r] ∧ DAt hd H' r (Wi.lst z).d ∧ DAt hd H' v1 u1.d ∧ HandAt H' hd sc ∧ SameB hd H2 H') (fun Q q => gv_two (j := m - 1) (fun H' => pu_sub (pu_v rfl) pu_c) (by omega) _ ?_) ?_) ?_
        · rintro _ H3 ⟨b, rfl, s3⟩
          refine (pu_v rfl : Pu (tVar 1) _ _ v1) _ (LE rfl (hh2.same s3) (hv2.same s3) _ ?_)
          rintro r H4 ⟨⟨z, hr⟩, hv4, hh4, s4⟩
          exact q _ _ ⟨b, r, z, rfl, hr, hv4, hh4, s3.b.trans s4⟩
        · rintro _ H4 ⟨b, r, z, rfl, hr, hv4, hh4, s4⟩
          refine ⟨len3, fun a ha => ?_⟩
          cases b with
          | false => exact ⟨.both u1 (.lst z), .tup upd_same (.cons (.str _ (by decide +kernel)) (.cons (hv4.same (Same.upd ha)) (.cons (hr.same (Same.upd ha)) .nil))), ⟨nn1, trivial⟩, by simp only [Wi.deep]; omega, hh4.same (Same.upd ha), s12.trans (s4.trans (Same.upd ha).b)⟩
          | true => exact ⟨.any u1 (.lst z), .tup upd_same (.cons (.str _ (by decide +kernel)) (.cons (hv4.same (Same.upd ha)) (.cons (hr.same (Same.upd ha)) .nil))), ⟨nn1, trivial⟩, by simp only [Wi.deep]; omega, hh4.same (Same.upd ha), s12.trans (s4.trans (Same.upd ha).b)⟩
        · rintro r H4 ⟨u', a, b, c, d, e⟩
          exact ⟨d, e, r, u', _, _, a, b, c, rfl⟩
      · obtain ⟨e, rfl⟩ := e
        have c1 := of_decide_eq_false e.symm
        refine st_setG1 (R := fun r H' => ∃ u' : Wi, DAt hd H' r u'.d ∧ u'.names ∧ u'.deep = u.deep + (j + 1) ∧ HandAt H' hd sc ∧ SameB hd H H') (gv_tupA (RA := fun vs H' => ∃ (b : Bool) (r : V) (z : Int), vs = [.str (if b then Str.ofString "any" else Str.ofString "both"), r, v1] ∧ DAt hd H' r (Wi.lst z).d ∧ DAt hd H' v1 u1.d ∧ HandAt H' hd sc ∧ SameB hd H2 H') (fun Q q => gv_two (j := m - 3) (fun H' => pu_sub (pu_v rfl) pu_c) (by omega) _ ?_) ?_) ?_
        · rintro _ H3 ⟨b, rfl, s3⟩
          refine LE rfl (hh2.same s3) (hv2.same s3) _ ?_
          rintro r H4 ⟨⟨z, hr⟩, hv4, hh4, s4⟩
          exact (pu_v rfl : Pu (tVar 1) _ _ v1) _ (q _ _ ⟨b, r, z, rfl, hr, hv4, hh4, s3.b.trans s4⟩)
        · rintro _ H4 ⟨b, r, z, rfl, hr, hv4, hh4, s4⟩
          refine ⟨len3, fun a ha => ?_⟩
          cases b with
          | false => exact ⟨.both (.lst z) u1, .tup upd_same (.cons (.str _ (by decide +kernel)) (.cons (hr.same (Same.upd ha)) (.cons (hv4.same (Same.upd ha)) .nil))), ⟨trivial, nn1⟩, by simp only [Wi.deep]; omega, hh4.same (Same.upd ha), s12.trans (s4.trans (Same.upd ha).b)⟩
          | true => exact ⟨.any (.lst z) u1, .tup upd_same (.cons (.str _ (by decide +kernel)) (.cons (hr.same (Same.upd ha)) (.cons (hv4.same (Same.upd ha)) .nil))), ⟨trivial, nn1⟩, by simp only [Wi.deep]; omega, hh4.same (Same.upd ha), s12.trans (s4.trans (Same.upd ha).b)⟩
        · rintro r H4 ⟨u', a, b, c, d, e⟩
          exact ⟨d, e, r, u', _, _, a, b, c, rfl⟩
    · rintro σ H1 ⟨hh1, s1, v1, u1, y, z, hv1, nn1, dp1, rfl⟩
      exact st_ret (pu_v rfl) (k v1 u1 H1 hv1 nn1 (by omega) hh1 s1)
def bad (d : D) : Prop := ∀ k, isW k d = false
theorem bad_of {w : Str} {ds : List D} (h : ∀ k ks, shp w = some ks → partsOk (isW k) ks ds = false) : bad (.tup (.str w :: ds))
  | 0 => rfl
  | k + 1 => by
    show (match shp w with | none => false | some ks => partsOk (isW k) ks ds) = false
    cases e : shp w with
    | none => rfl
    | some ks => exact h k ks e
theorem bad_len {u : Wi} {ds : List D} (h : ds.length ≠ u.parts.length) : bad (.tup (.str u.word :: ds)) := bad_of fun k ks e => by
  rw [u.shp_eq] at e
  cases e
  exact partsOk_len _ _ _ (by rw [List.length_map]; exact fun z => h z.symm)
theorem isW_no {k : Nat} {d : D} (h : d.isTup = false) : isW k d = false := by
  cases k with
  | zero => rfl
  | succ k => cases d <;> first | rfl | cases h
theorem part_true (k : Nat) (kd : Kd) : partOk (isW k) kd (.bl true) = false := by
  cases kd with
  | name => rfl
  | number => rfl
  | wish => exact isW_no rfl
theorem part_text (k : Nat) (kd : Kd) {s : Str} (h : nameOk s = false) : partOk (isW k) kd (.str s) = false := by
  cases kd with
  | name => exact h
  | number => rfl
  | wish => exact isW_no rfl
theorem bad_true (u : Wi) (ds : List D) : bad (.tup (.str u.word :: .bl true :: ds)) := bad_of fun k ks e => by
  rw [u.shp_eq] at e
  cases e
  cases hp : u.parts with
  | nil => exact absurd hp u.parts_ne
  | cons p r => simp [partsOk, part_true]
theorem bad_last (u : Wi) {s : Str} (h : nameOk s = false) : bad (.tup (.str u.word :: ((u.parts.map Pa.d).dropLast ++ [.str s]))) := bad_of fun k ks e => by
  rw [u.shp_eq] at e
  cases e
  cases u <;> simp [Wi.parts, Pa.kd, Pa.d, partsOk, part_text, h]
def nineD : List D := [.str (Str.ofString ""), .str (Str.ofString "In"), .str (Str.ofString "not"), .str (Str.ofString "or"), .str (Str.ofString "least "), .str (Str.ofString "inn"), .lst [.str (Str.ofString "in")], .dct, .tup [.str (Str.ofString "in")]]
theorem bad_first {d : D} (h : d ∈ nineD) (ds : List D) : bad (.tup (d :: ds)) := by
  have none6 : ∀ s ∈ [Str.ofString "", Str.ofString "In", Str.ofString "not", Str.ofString "or", Str.ofString "least ", Str.ofString "inn"], shp s = none := by decide +kernel
  have B : ∀ s ∈ [Str.ofString "", Str.ofString "In", Str.ofString "not", Str.ofString "or", Str.ofString "least ", Str.ofString "inn"], bad (.tup (.str s :: ds)) := fun s hs => bad_of fun k ks e => by rw [none6 s hs] at e; cases e
  simp only [nineD, List.mem_cons, List.not_mem_nil, or_false] at h
  rcases h with rfl | rfl | rfl | rfl | rfl | rfl | rfl | rfl | rfl
  · exact B _ (by simp)
  · exact B _ (by simp)
  · exact B _ (by simp)
  · exact B _ (by simp)
  · exact B _ (by simp)
  · exact B _ (by simp)
  · intro k; cases k <;> rfl
  · intro k; cases k <;> rfl
  · intro k; cases k <;> rfl
theorem bad_no {d : D} (h : bad d) : bad (.tup [.str (Str.ofString "no"), d]) := bad_of fun k ks e => by
  rw [Wi.shp_no] at e
  cases e
  simp [partsOk, partOk, h k]
theorem bad_two {w : Str} {d e : D} (hw : shp w = some [.wish, .wish]) (h : bad d ∨ bad e) : bad (.tup [.str w, d, e]) := bad_of fun k ks z => by
  rw [hw] at z
  cases z
  rcases h with h | h <;> simp [partsOk, partOk, h k]
/-! displays of things -/
def DE (hd : Addr) (σ : L2.St) (H0 : Hp) (te : TE) (d : D) : Prop := ∀ H', Same H0 H' → Gv te σ H' (fun v H2 => Same H' H2 ∧ DAt hd H2 v d)
def DA (hd : Addr) (σ : L2.St) (H0 : Hp) (ta : TA) (ds : List D) : Prop := ∀ H', Same H0 H' → GvA ta σ H' (fun vs H2 => Same H' H2 ∧ DsAt hd H2 vs ds)
section
variable {hd : Addr} {σ : L2.St} {H0 : Hp} {te te' : TE} {ta : TA} {d : D} {ds ds' : List D}
theorem de_s {x : Str} (h : (∀ c ∈ x.cps.toList, c < 128) ∧ x.length ≤ 1000) : DE hd σ H0 (tC (.str x)) (.str x) := fun H' s => Pu.gv' pu_c ⟨Same.rfl', .str x h⟩
theorem de_d : DE hd σ H0 tDNewK .dct := fun H' s => gv_newD.imp fun v H2 ⟨p, hp, e1, e2⟩ => by subst e1 e2; exact ⟨Same.upd hp, .dct upd_same⟩
theorem da_n : DA hd σ H0 tNil [] := fun H' s Q q => q _ _ ⟨Same.rfl', .nil⟩
theorem da_c (h : DE hd σ H0 te d) (t : DA hd σ H0 ta ds) : DA hd σ H0 (tCons te ta) (d :: ds) := fun H' s Q q => h H' s _ fun v H1 r => t H1 (s.trans r.1) _ fun vs H2 r' => q _ _ ⟨r.1.trans r'.1, .cons (r.2.same r'.1) r'.2⟩
theorem de_tup (h : DA hd σ H0 ta ds) (hz : ds.length ≤ 1000 := by simp) : DE hd σ H0 (tTup ta) (.tup ds) := fun H' s => gv_tupA (h H' s) fun vs H1 r => ⟨by rw [r.2.len]; exact Nat.le_trans hz (by decide), fun p hp => ⟨r.1.trans (Same.upd hp), .tup upd_same (r.2.same (Same.upd hp))⟩⟩
theorem de_lst {o : HO} (ho : H0 hd = some o) (h : DA hd σ H0 ta ds) (hz : ds.length ≤ 1000 := by simp) : DE hd σ H0 (tLst ta) (.lst ds) := fun H' s => gv_lstA (h H' s) fun vs H1 r => ⟨by rw [r.2.len]; exact Nat.le_trans hz (by decide), fun p hp => ⟨r.1.trans (Same.upd hp), .lst upd_same (Ne.symm (ne_of_none (r.1 _ _ (s _ _ ho)) hp)) (r.2.same (Same.upd hp))⟩⟩
theorem ds_app {H : Hp} : ∀ {vs ws : List V} {ds es : List D}, DsAt hd H vs ds → DsAt hd H ws es → DsAt hd H (vs ++ ws) (ds ++ es)
  | _, _, _, _, .nil, h => h
  | _, _, _, _, .cons a t, h => .cons a (ds_app t h)
theorem ds_dropLast {H : Hp} : ∀ {vs : List V} {ds : List D}, DsAt hd H vs ds → DsAt hd H vs.dropLast ds.dropLast
  | _, _, .nil => .nil
  | _, _, .cons a .nil => .nil
  | _, _, .cons a (.cons b t) => .cons a (ds_dropLast (.cons b t))
theorem ds_drop {H : Hp} : ∀ {vs : List V} {ds : List D} (k : Nat), DsAt hd H vs ds → DsAt hd H (vs.drop k) (ds.drop k)
  | _, _, 0, h => h
  | _, _, k + 1, .nil => .nil
  | _, _, k + 1, .cons a t => ds_drop k t
end
/-! slices of tuples, tuples put together -/
section
variable {K : PySem.W.Frag} {σ : L2.St} {H : Hp} {to tk ta tb : TE} {a : Addr} {zs : List V}
theorem gv_slTo {k : Nat} (ho : Pu to σ H (.ref a)) (hk : Pu tk σ H (.int (k : Int))) (ha : H a = some (.tup zs)) (h2 : k < zs.length) : Gv (tSl (rSlT K) to tNoPart (tPart tk)) σ H (fun v H' => ∃ p, H p = none ∧ v = .ref p ∧ H' = upd H p (.tup (zs.take k))) := fun Q q =>
  ho _ (hk _ ⟨_, rfl, a, zs, rfl, SqT.of ha, fun z => by rw [HT.sIx_nat] at z; omega, fun p hp => by rw [cutV_take _ (by omega)]; exact q _ _ ⟨p, hp, rfl, rfl⟩⟩)
theorem gv_slFrom {k : Nat} (ho : Pu to σ H (.ref a)) (hk : Pu tk σ H (.int (k : Int))) (ha : H a = some (.tup zs)) (h1 : 1 ≤ k) (h2 : k ≤ zs.length) : Gv (tSl (rSlT K) to (tPart tk) tNoPart) σ H (fun v H' => ∃ p, H p = none ∧ v = .ref p ∧ H' = upd H p (.tup (zs.drop k))) := fun Q q =>
  ho _ (hk _ ⟨_, rfl, a, zs, rfl, SqT.of ha, fun z => by rw [HT.sIx_nat] at z; omega, fun p hp => by rw [cutV_drop _ h2]; exact q _ _ ⟨p, hp, rfl, rfl⟩⟩)
theorem cutV_last (xs : List V) (h : 1 ≤ xs.length) : cutV xs none (some (-1)) = xs.dropLast := by
  unfold cutV
  have e1 : HT.sIx xs.length xs.length (some (-1)) = xs.length - 1 := by
    show (if (-1 : Int) < 0 then ((-1 : Int) + (xs.length : Int)).toNat else min (-1 : Int).toNat xs.length) = xs.length - 1
    rw [if_pos (by decide)]
    omega
  rw [e1, HT.sIx_none, List.drop_zero, Nat.sub_zero, List.dropLast_eq_take]
theorem gv_slLast (ho : Pu to σ H (.ref a)) (hk : Pu tk σ H (.int (-1))) (ha : H a = some (.tup zs)) (h1 : 1 ≤ zs.length) : Gv (tSl (rSlT K) to tNoPart (tPart tk)) σ H (fun v H' => ∃ p, H p = none ∧ v = .ref p ∧ H' = upd H p (.tup zs.dropLast)) := fun Q q =>
  ho _ (hk _ ⟨_, rfl, a, zs, rfl, SqT.of ha, fun z => by
    have e1 : HT.sIx zs.length zs.length (some (-1)) = zs.length - 1 := by
      show (if (-1 : Int) < 0 then ((-1 : Int) + (zs.length : Int)).toNat else min (-1 : Int).toNat zs.length) = zs.length - 1
      rw [if_pos (by decide)]
      omega
    rw [e1] at z
    omega, fun p hp => by rw [cutV_last _ h1]; exact q _ _ ⟨p, hp, rfl, rfl⟩⟩)
theorem gv_catT {R1 R : V → Hp → Prop} {R2 : V → V → Hp → Prop} (h1 : Gv ta σ H R1) (h2 : ∀ x H1, R1 x H1 → Gv tb σ H1 (R2 x))
    (h3 : ∀ x y H2, R2 x y H2 → ∃ a b xs ys, x = .ref a ∧ y = .ref b ∧ H2 a = some (.tup xs) ∧ H2 b = some (.tup ys) ∧ xs ≠ [] ∧ xs.length + ys.length ≤ 1000 ∧ ∀ p H', Same H2 H' → H' p = some (.tup (xs ++ ys)) → R (.ref p) H') : Gv (tOp (rCatT K) ta tb) σ H R :=
  gv_opG h1 h2 fun x y H2 r Q q => by
    obtain ⟨a, b, xs, ys, rfl, rfl, ha, hb, hx, hz, k⟩ := h3 x y H2 r
    refine ⟨a, b, xs, ys, rfl, rfl, SqT.of ha, SqT.of hb, hx, Nat.le_trans hz (by decide), fun e => ?_, fun _ p hp => q _ _ (k p _ (Same.upd hp) upd_same)⟩
    subst e
    exact q _ _ (k a _ Same.rfl' (by rw [List.append_nil]; exact ha))
end
def sp_l_spoilt (n : Nat) : Sp := fun vs H Q _ => ∃ (hd sc : Addr) (v : V) (u : Wi), vs = [.ref hd, v] ∧ HandAt H hd sc ∧ DAt hd H v u.d ∧ u.deep ≤ n ∧ ∀ (r : V) (d : D) H', DAt hd H' r d → bad d → HandAt H' hd sc → SameB hd H H' → Q r H'
theorem sc_l_spoilt : FnScope ["_law_hand_here", "_law_wish_here", "_law_at", "_law_way"] ["_law_hand_here", "_law_wish_here"] (defScope s_l_spoilt) := ⟨rfl, rfl, rfl, by decide +kernel, rfl, by decide +kernel, by decide +kernel⟩
def deepW (u : Wi) : Bool := match u with
  | .no _ => true
  | .both _ _ => true
  | .any _ _ => true
  | _ => false
theorem deepW_in (u : Wi) : inV (.str u.word) [.str (Str.ofString "no"), .str (Str.ofString "both"), .str (Str.ofString "any")] = deepW u := by
  have T3 : ∀ x ∈ [Str.ofString "no", Str.ofString "both", Str.ofString "any"], inV (.str x) [.str (Str.ofString "no"), .str (Str.ofString "both"), .str (Str.ofString "any")] = true := by decide +kernel
  have F3 : ∀ x ∈ [Str.ofString "in", Str.ofString "round", Str.ofString "least"], inV (.str x) [.str (Str.ofString "no"), .str (Str.ofString "both"), .str (Str.ofString "any")] = false := by decide +kernel
  cases u
  · exact F3 _ (by simp [Wi.word])
  · exact F3 _ (by simp [Wi.word])
  · exact F3 _ (by simp [Wi.word])
  · exact T3 _ (by simp [Wi.word])
  · exact T3 _ (by simp [Wi.word])
  · exact T3 _ (by simp [Wi.word])
theorem okA_spoilt (T : Txt K mg t w) {n k : Nat} (GP : FnOk P w K mg base CX0 k t.f_l_spoilt t.d_l_spoilt ["_law_hand_here", "_law_wish_here"] (sp_l_spoilt n)) (hk : 8 ≤ k) : FnOk P w K mg base CX0 (k + 1) t.f_l_spoilt t.d_l_spoilt ["_law_hand_here", "_law_wish_here"] (sp_l_spoilt (n + 1)) := by
  have ok_l_spoilt := fun (_ : Txt K mg t w) => GP
  refine T.l_spoilt.F.ok (k := k) sc_l_spoilt (fun vs H Q E h => ?_) (fun cdv A outer s H vs Q E hr h => ?_)
  · obtain ⟨hd, sc, v, u, rfl, _⟩ := h
    rfl
  · obtain ⟨hd, sc, v, u, rfl, hh, hv, dp, k⟩ := h
    refine ⟨_, (@pss_cons _ _ _ _ _ (@ps_if _ _ _ _ _ _ _ _ (PW.pt (@pw_and _ _ _ _ _ _ _ (@pt_cmpR _ _ _ _ _ _ _ _ op_in_seq (@pe_ix _ _ _ _ _ _ _ ix_tup (pv 1) (@pe_int _ _ _ _) (fun _ _ => rfl)) (@pe_tup _ _ _ _ _ (@pa_cons _ _ _ _ _ (@pe_str _ _ _ _) (@pa_cons _ _ _ _ _ (@pe_str _ _ _ _) (@pa_cons _ _ _ _ _ (@pe_str _ _ _ _) (@pa_nil _) star_con) star_con) star_con)) rfl) (@pw_and1 _ _ _ _ (@pt_cmpR _ _ _ _ _ _ _ _ op_gt (@pe_fn _ _ _ _ _ _ _ _ _ _ _ _ _ _ T.l_draw (ok_l_draw T) hr (by omega) (@pa_cons _ _ _ _ _ (pv 0) (@pa_cons _ _ _ _ _ (@pe_int _ _ _ _) (@pa_nil _) star_con) star_name) (by rfl) (by decide) (by rfl) (by rfl)) (@pe_int _ _ _ _) (nomark _))))) (@pss_cons _ _ _ _ _ (@ps_set _ _ 2 _ _ _ _ sc_l_spoilt.nd rfl (Or.inl rfl) (@pe_op _ _ _ _ _ _ _ _ op_add (@pe_int _ _ _ _) (@pe_fn _ _ _ _ _ _ _ _ _ _ _ _ _ _ T.l_draw (ok_l_draw T) hr (by omega) (@pa_cons _ _ _ _ _ (pv 0) (@pa_cons _ _ _ _ _ (@pe_op _ _ _ _ _ _ _ _ op_sub (@pe_callB _ _ _ _ _ _ _ _ _ call_len_seq (by rfl) T.b_len PySem.boot_len (@pa_cons _ _ _ _ _ (pv 1) (@pa_nil _) star_name) (by decide) (by decide) (by rfl) (by rfl)) (@pe_int _ _ _ _)) (@pa_nil _) star_bin) star_name) (by rfl) (by decide) (by rfl) (by rfl))) (by rfl) (by first | exact .inl rfl | exact .inr rfl | assumption)) (@pss_one _ _ _ (@ps_ret _ _ _ _ (@pe_op _ _ _ _ _ _ _ _ op_catT (@pe_op _ _ _ _ _ _ _ _ op_catT (@pe_slice _ _ _ _ _ _ _ _ _ _ sl_tup (pv 1) (@po_none _) (@po_some _ _ _ (pv 2))) (@pe_tup _ _ _ _ _ (@pa_cons _ _ _ _ _ (@pe_fn _ _ _ _ _ _ _ _ _ _ _ _ _ _ T.l_spoilt (ok_l_spoilt T) hr (by omega) (@pa_cons _ _ _ _ _ (pv 0) (@pa_cons _ _ _ _ _ (@pe_ix _ _ _ _ _ _ _ ix_tup (pv 1) (pv 2) (fun _ _ => rfl)) (@pa_nil _) star_sub) star_name) (by rfl) (by decide) (by rfl) (by rfl)) (@pa_nil _) star_call))) (@pe_slice _ _ _ _ _ _ _ _ _ _ sl_tup (pv 1) (@po_some _ _ _ (@pe_op _ _ _ _ _ _ _ _ op_add (pv 2) (@pe_int _ _ _ _))) (@po_none _)))))) (@pss_nil _)) (@pss_cons _ _ _ _ _ (@ps_set _ _ 3 _ _ _ _ sc_l_spoilt.nd rfl (Or.inl rfl) (@pe_fn _ _ _ _ _ _ _ _ _ _ _ _ _ _ T.l_draw (ok_l_draw T) hr (by omega) (@pa_cons _ _ _ _ _ (pv 0) (@pa_cons _ _ _ _ _ (@pe_int _ _ _ _) (@pa_nil _) star_con) star_name) (by rfl) (by decide) (by rfl) (by rfl)) (by rfl) (by first | exact .inl rfl | exact .inr rfl | assumption)) (@pss_cons _ _ _ _ _ (@ps_if _ _ _ _ _ _ _ _ (@pt_cmpR _ _ _ _ _ _ _ _ op_eq (pv 3) (@pe_int _ _ _ _) (nomark _)) (@pss_one _ _ _ (@ps_ret _ _ _ _ (@pe_op _ _ _ _ _ _ _ _ op_catT (pv 1) (@pe_tup _ _ _ _ _ (@pa_cons _ _ _ _ _ (@pe_ix _ _ _ _ _ _ _ ix_tup (pv 1) (@pe_int _ _ _ _) (fun _ _ => rfl)) (@pa_nil _) star_sub))))) (@pss_nil _)) (@pss_cons _ _ _ _ _ (@ps_if _ _ _ _ _ _ _ _ (@pt_cmpR _ _ _ _ _ _ _ _ op_eq (pv 3) (@pe_int _ _ _ _) (nomark _)) (@pss_one _ _ _ (@ps_ret _ _ _ _ (@pe_slice _ _ _ _ _ _ _ _ _ _ sl_tup (pv 1) (@po_none _) (@po_some _ _ _ (@pe_int _ _ _ _))))) (@pss_nil _)) (@pss_cons _ _ _ _ _ (@ps_if _ _ _ _ _ _ _ _ (@pt_cmpR _ _ _ _ _ _ _ _ op_eq (pv 3) (@pe_int _ _ _ _) (nomark _)) (@pss_one _ _ _ (@ps_ret _ _ _ _ (@pe_callTy _ _ _ _ _ _ _ _ _ call_list_of (by rfl) T.b_list PyProof.Rows.boot_list (@pa_cons _ _ _ _ _ (pv 1) (@pa_nil _) star_name) (by decide) (by decide) (by rfl) (by rfl)))) (@pss_nil _)) (@pss_cons _ _ _ _ _ (@ps_if _ _ _ _ _ _ _ _ (@pt_cmpR _ _ _ _ _ _ _ _ op_eq (pv 3) (@pe_int _ _ _ _) (nomark _)) (@pss_one _ _ _ (@ps_ret _ _ _ _ (@pe_op _ _ _ _ _ _ _ _ op_catT (@pe_tup _ _ _ _ _ (@pa_cons _ _ _ _ _ (@pe_ix _ _ _ _ _ _ _ ix_list (@pe_lst _ _ _ _ (@pa_cons _ _ _ _ _ (@pe_str _ _ _ _) (@pa_cons _ _ _ _ _ (@pe_str _ _ _ _) (@pa_cons _ _ _ _ _ (@pe_str _ _ _ _) (@pa_cons _ _ _ _ _ (@pe_str _ _ _ _) (@pa_cons _ _ _ _ _ (@pe_str _ _ _ _) (@pa_cons _ _ _ _ _ (@pe_str _ _ _ _) (@pa_cons _ _ _ _ _ (@pe_lst _ _ _ _ (@pa_cons _ _ _ _ _ (@pe_str _ _ _ _) (@pa_nil _) star_con)) (@pa_cons _ _ _ _ _ pe_dnewK (@pa_cons _ _ _ _ _ (@pe_tup _ _ _ _ _ (@pa_cons _ _ _ _ _ (@pe_str _ _ _ _) (@pa_nil _) star_con)) (@pa_nil _) star_tup) (by rfl)) star_lst) star_con) star_con) star_con) star_con) star_con) star_con)) (@pe_fn _ _ _ _ _ _ _ _ _ _ _ _ _ _ T.l_draw (ok_l_draw T) hr (by omega) (@pa_cons _ _ _ _ _ (pv 0) (@pa_cons _ _ _ _ _ (@pe_int _ _ _ _) (@pa_nil _) star_con) star_name) (by rfl) (by decide) (by rfl) (by rfl)) (fun _ _ => rfl)) (@pa_nil _) star_sub)) (@pe_slice _ _ _ _ _ _ _ _ _ _ sl_tup (pv 1) (@po_some _ _ _ (@pe_int _ _ _ _)) (@po_none _))))) (@pss_nil _)) (@pss_cons _ _ _ _ _ (@ps_if _ _ _ _ _ _ _ _ (@pt_cmpR _ _ _ _ _ _ _ _ op_eq (pv 3) (@pe_int _ _ _ _) (nomark _)) (@pss_one _ _ _ (@ps_ret _ _ _ _ (@pe_non _ _ _))) (@pss_nil _)) (@pss_cons _ _ _ _ _ (@ps_if _ _ _ _ _ _ _ _ (@pt_cmpR _ _ _ _ _ _ _ _ op_eq (pv 3) (@pe_int _ _ _ _) (nomark _)) (@pss_one _ _ _ (@ps_ret _ _ _ _ (@pe_op _ _ _ _ _ _ _ _ op_catT (@pe_tup _ _ _ _ _ (@pa_cons _ _ _ _ _ (@pe_ix _ _ _ _ _ _ _ ix_tup (pv 1) (@pe_int _ _ _ _) (fun _ _ => rfl)) (@pa_cons _ _ _ _ _ (@pe_bl _ _ _ _) (@pa_nil _) star_con) star_sub)) (@pe_slice _ _ _ _ _ _ _ _ _ _ sl_tup (pv 1) (@po_some _ _ _ (@pe_int _ _ _ _)) (@po_none _))))) (@pss_nil _)) (@pss_cons _ _ _ _ _ (@ps_if _ _ _ _ _ _ _ _ (@pt_cmpR _ _ _ _ _ _ _ _ op_eq (pv 3) (@pe_int _ _ _ _) (nomark _)) (@pss_one _ _ _ (@ps_ret _ _ _ _ (@pe_op _ _ _ _ _ _ _ _ op_catT (@pe_slice _ _ _ _ _ _ _ _ _ _ sl_tup (pv 1) (@po_none _) (@po_some _ _ _ (@pe_un _ _ _ _ _ _ un_neg (@pe_int _ _ _ _)))) (@pe_tup _ _ _ _ _ (@pa_cons _ _ _ _ _ (@pe_ix _ _ _ _ _ _ _ ix_list (@pe_lst _ _ _ _ (@pa_cons _ _ _ _ _ (@pe_str _ _ _ _) (@pa_cons _ _ _ _ _ (@pe_str _ _ _ _) (@pa_cons _ _ _ _ _ (@pe_str _ _ _ _) (@pa_cons _ _ _ _ _ (@pe_str _ _ _ _) (@pa_cons _ _ _ _ _ (@pe_str _ _ _ _) (@pa_cons _ _ _ _ _ (@pe_str _ _ _ _) (@pa_nil _) star_con) star_con) star_con) star_con) star_con) star_con)) (@pe_fn _ _ _ _ _ _ _ _ _ _ _ _ _ _ T.l_draw (ok_l_draw T) hr (by omega) (@pa_cons _ _ _ _ _ (pv 0) (@pa_cons _ _ _ _ _ (@pe_int _ _ _ _) (@pa_nil _) star_con) star_name) (by rfl) (by decide) (by rfl) (by rfl)) (fun _ _ => rfl)) (@pa_nil _) star_sub))))) (@pss_nil _)) (@pss_one _ _ _ (@ps_ret _ _ _ _ (@pe_ix _ _ _ _ _ _ _ ix_tup (pv 1) (@pe_int _ _ _ _) (fun _ _ => rfl))))))))))))), ?_⟩
    have d1 := (u.deep_iff n).mp dp
    have pl := u.parts_le
    have pn := u.parts_ne
    have hv0 := hv
    rw [u.d_eq] at hv
    obtain ⟨ys, hys⟩ := hh.ls
    cases hv with
    | @tup a zs ds h td =>
    have zl : zs.length = u.parts.length + 1 := by rw [td.len, List.length_cons, List.length_map]
    have pp : 1 ≤ u.parts.length := by
      cases hp : u.parts with
      | nil => exact absurd hp pn
      | cons p r => exact Nat.succ_le_succ (Nat.zero_le _)
    have z0 : ∃ xs, zs = .str u.word :: xs := by
      cases td with
      | cons h0 _ => cases h0; exact ⟨_, rfl⟩
    obtain ⟨xs, rfl⟩ := z0
    have na : ∀ {p : Addr} {H1 : Hp}, H1 p = none → H1 hd = some (.lst ys) → p ≠ hd := fun {p H1} hp hy e => by rw [e, hy] at hp; cases hp
    refine st_ifNG (R := fun b H' => (b = true → deepW u = true) ∧ HandAt H' hd sc ∧ SameB hd H H') (gt_and (R := fun b H' => b = deepW u ∧ Same H H') (fun Q q => ?_) (fun H' e => fun Q q => ?_) (fun H' e => ⟨(fun z => by cases z), hh.same e.2, e.2.b⟩)) (fun H1 e => ?_) (fun H1 e => ?_)
    · refine (pu_ixT (pu_v rfl) pu_c (SqT.of h) at0) _ (gv_tup (pa_c pu_c (pa_c pu_c (pa_c pu_c pa_n))) len3 _ ?_)
      rintro _ _ ⟨p, hp, rfl, rfl⟩
      exact ⟨p, _, rfl, .inr (SqT.of upd_same), rfl, rfl, _, rfl, q _ _ ⟨deepW_in u, Same.upd hp⟩⟩
    · refine gv_draw (hh.same e.2) (pa_c (pu_v rfl) (pa_c pu_c pa_n)) (by decide) Bd.small _ ?_
      rintro _ H2 ⟨⟨m, rfl, _, _⟩, hh2, s2⟩
      exact ⟨_, _, rfl, rfl, _, rfl, q _ _ ⟨fun _ => e.1.symm, hh2, e.2.b.trans s2⟩⟩
    · -- one part spoilt
      obtain ⟨e0, hh1, s1⟩ := e
      have hw := e0 rfl
      obtain ⟨ys1, hys1⟩ := hh1.ls
      have h1 : H1 a = some (.tup (.str u.word :: xs)) := s1 _ _ h fun z => by rw [z, hys] at h; cases h
      have td1 := DsAt.but hys s1 td
      refine st_setG (R := fun v H' => (∃ m : Nat, v = .int (m : Int) ∧ 1 ≤ m ∧ m ≤ u.parts.length) ∧ HandAt H' hd sc ∧ SameB hd H1 H') (fun Q q => pu_c (v := .int 1) _ (gv_draw (m := (u.parts.length : Int)) hh1 (pa_c (pu_v rfl) (pa_c (pu_cast (pu_sub (pu_lenT (pa_c (pu_v rfl) pa_n) (SqT.of h1)) pu_c) (by rw [zl]; congr 1; omega)) pa_n)) (by omega) (Bd.small (by omega)) _ ?_)) ?_
      · rintro _ H2 ⟨⟨m, rfl, m0, m1⟩, hh2, s2⟩
        exact ⟨1, m, rfl, rfl, q _ _ ⟨⟨m.toNat + 1, by show V.int (1 + m) = _; congr 1; omega, by omega, by omega⟩, hh2, s2⟩⟩
      rintro _ H2 ⟨⟨m, rfl, m1, m2⟩, hh2, s2⟩
      obtain ⟨ys2, hys2⟩ := hh2.ls
      have h2 : H2 a = some (.tup (.str u.word :: xs)) := s2 _ _ h1 fun z => by rw [z, hys1] at h1; cases h1
      have td2 := DsAt.but hys1 s2 td1
      have s12 := s1.trans s2
      -- the part at m
      obtain ⟨y, u', hy, hyu, du'⟩ : ∃ (y : V) (u' : Wi), (V.str u.word :: xs)[m]? = some y ∧ DAt hd H2 y u'.d ∧ u'.deep ≤ n := by
        have hm : m < (V.str u.word :: xs).length := by rw [zl]; omega
        obtain ⟨d, hd', hda⟩ := td2.get (List.getElem?_eq_getElem hm)
        obtain ⟨j, rfl⟩ : ∃ j, m = j + 1 := ⟨m - 1, by omega⟩
        rw [List.getElem?_cons_succ, List.getElem?_map] at hd'
        cases hpj : u.parts[j]? with
        | none => rw [hpj] at hd'; cases hd'
        | some p =>
          rw [hpj] at hd'
          have : ∃ w', p = .ws w' := by
            have hmem := List.mem_of_getElem? hpj
            cases u with
            | no w => simp only [Wi.parts, List.mem_singleton] at hmem; exact ⟨_, hmem⟩
            | both a b => simp only [Wi.parts, List.mem_cons, List.not_mem_nil, or_false] at hmem; rcases hmem with rfl | rfl; exact ⟨_, rfl⟩; exact ⟨_, rfl⟩
            | any a b => simp only [Wi.parts, List.mem_cons, List.not_mem_nil, or_false] at hmem; rcases hmem with rfl | rfl; exact ⟨_, rfl⟩; exact ⟨_, rfl⟩
            | inn _ => cases hw
            | rnd _ _ => cases hw
            | lst _ => cases hw
          obtain ⟨w', rfl⟩ := this
          have hd'' : w'.d = d := Option.some.inj hd'
          subst hd''
          exact ⟨_, w', List.getElem?_eq_getElem hm, hda, d1 _ (List.mem_of_getElem? hpj)⟩
      have hm : m < (V.str u.word :: xs).length := by rw [zl]; omega
      refine st_retG (R := fun v H' => ∃ p r d, v = .ref p ∧ H' p = some (.tup ((V.str u.word :: xs).take m ++ [r] ++ (V.str u.word :: xs).drop (m + 1))) ∧ DAt hd H' r d ∧ bad d ∧ HandAt H' hd sc ∧ SameB hd H2 H') (gv_catT (R1 := fun v H' => ∃ p r d, v = .ref p ∧ H' p = some (.tup ((V.str u.word :: xs).take m ++ [r])) ∧ DAt hd H' r d ∧ bad d ∧ HandAt H' hd sc ∧ SameB hd H2 H') (R2 := fun v w H' => ∃ p q r d, v = .ref p ∧ w = .ref q ∧ H' p = some (.tup ((V.str u.word :: xs).take m ++ [r])) ∧ H' q = some (.tup ((V.str u.word :: xs).drop (m + 1))) ∧ DAt hd H' r d ∧ bad d ∧ HandAt H' hd sc ∧ SameB hd H2 H') (gv_catT (R1 := fun v H' => ∃ p, v = .ref p ∧ H' p = some (.tup ((V.str u.word :: xs).take m)) ∧ p ≠ hd ∧ Same H2 H') (R2 := fun v w H' => ∃ p q r d, v = .ref p ∧ w = .ref q ∧ H' p = some (.tup ((V.str u.word :: xs).take m)) ∧ H' q = some (.tup [r]) ∧ DAt hd H' r d ∧ bad d ∧ HandAt H' hd sc ∧ SameB hd H2 H') ?_ ?_ ?_) ?_ ?_) ?_
      · exact (gv_slTo (pu_v rfl) (pu_v rfl) h2 hm).imp fun v H' ⟨p, hp, e1, e2⟩ => by
          subst e1 e2
          exact ⟨p, rfl, upd_same, Ne.symm (ne_of_none hys2 hp), Same.upd hp⟩
      · rintro _ H3 ⟨p, rfl, hp3, np, s3⟩
        have hh3 := hh2.same s3
        refine gv_tupA (RA := fun vs H' => ∃ r d, vs = [r] ∧ H' p = some (.tup ((V.str u.word :: xs).take m)) ∧ DAt hd H' r d ∧ bad d ∧ HandAt H' hd sc ∧ SameB hd H2 H') (fun Q q => gv_call (sp := sp_l_spoilt n) (E := E0) (R := fun r H' => ∃ d, DAt hd H' r d ∧ bad d ∧ HandAt H' hd sc ∧ SameB hd H3 H') (pa_c (pu_v rfl) (pa_c (pu_ixT (pu_v rfl) (pu_v rfl) (SqT.of (s3 _ _ h2)) (atI_nat hy)) pa_n)) (fun Q q => ⟨hd, sc, y, u', rfl, hh3, hyu.same s3, du', fun r d H' a b c e => q _ _ ⟨d, a, b, c, e⟩⟩) _ ?_) ?_
        · rintro r H4 ⟨d, a1, a2, a3, a4⟩
          exact q _ _ ⟨r, d, rfl, a4 _ _ hp3 np, a1, a2, a3, s3.b.trans a4⟩
        · rintro _ H4 ⟨r, d, rfl, a1, a2, a3, a4, a5⟩
          exact ⟨by show 1 ≤ sizeLine; decide, fun q hq => ⟨p, q, r, d, rfl, rfl, Same.upd hq _ _ a1, upd_same, a2.same (Same.upd hq), a3, a4.same (Same.upd hq), a5.trans (Same.upd hq).b⟩⟩
      · rintro _ _ H4 ⟨p, q, r, d, rfl, rfl, a1, a2, a3, a4, a5, a6⟩
        refine ⟨p, q, _, _, rfl, rfl, a1, a2, ?_, ?_, fun p' H' s' e => ⟨p', r, d, rfl, e, a3.same s', a4, a5.same s', a6.trans s'.b⟩⟩
        · obtain ⟨j, rfl⟩ : ∃ j, m = j + 1 := ⟨m - 1, by omega⟩
          simp
        · rw [List.length_take]
          simp only [List.length_cons, List.length_nil]
          omega
      · rintro _ H4 ⟨p, r, d, rfl, a1, a2, a3, a4, a5⟩
        have h4 : H4 a = some (.tup (.str u.word :: xs)) := a5 _ _ h2 fun z => by rw [z, hys2] at h2; cases h2
        exact (gv_slFrom (k := m + 1) (pu_v rfl) (pu_cast (pu_add (pu_v rfl) pu_c) (by congr 1)) h4 (by omega) (by omega)).imp fun v H' ⟨q, hq, e1, e2⟩ => by
          subst e1 e2
          exact ⟨p, q, r, d, rfl, rfl, Same.upd hq _ _ a1, upd_same, a2.same (Same.upd hq), a3, a4.same (Same.upd hq), a5.trans (Same.upd hq).b⟩
      · rintro _ _ H4 ⟨p, q, r, d, rfl, rfl, a1, a2, a3, a4, a5, a6⟩
        refine ⟨p, q, _, _, rfl, rfl, a1, a2, by simp, ?_, fun p' H' s' e => ⟨p', r, d, rfl, e, a3.same s', a4, a5.same s', a6.trans s'.b⟩⟩
        rw [List.length_append, List.length_take, List.length_drop, List.length_singleton]
        omega
      · rintro _ H4 ⟨p, r, d, rfl, a1, a2, a3, a4, a5⟩
        have td4 := DsAt.but hys2 a5 td2
        clear hy hyu du' d1 dp hv0 e0 td td1 td2 hm
        cases u with
        | inn _ => cases hw
        | rnd _ _ => cases hw
        | lst _ => cases hw
        | no w =>
          obtain rfl : m = 1 := by simp only [Wi.parts, List.length_cons, List.length_nil] at m2; omega
          cases td4 with
          | cons hA t1 =>
          cases t1 with
          | cons hB t2 =>
          cases t2
          exact k _ _ H4 (.tup a1 (.cons hA (.cons a2 .nil))) (bad_no a3) a4 (s12.trans a5)
        | both a b =>
          have : m = 1 ∨ m = 2 := by simp only [Wi.parts, List.length_cons, List.length_nil] at m2; omega
          cases td4 with
          | cons hA t1 =>
          cases t1 with
          | cons hB t2 =>
          cases t2 with
          | cons hC t3 =>
          cases t3
          rcases this with rfl | rfl
          · exact k _ _ H4 (.tup a1 (.cons hA (.cons a2 (.cons hC .nil)))) (bad_two Wi.shp_both (.inl a3)) a4 (s12.trans a5)
          · exact k _ _ H4 (.tup a1 (.cons hA (.cons hB (.cons a2 .nil)))) (bad_two Wi.shp_both (.inr a3)) a4 (s12.trans a5)
        | any a b =>
          have : m = 1 ∨ m = 2 := by simp only [Wi.parts, List.length_cons, List.length_nil] at m2; omega
          cases td4 with
          | cons hA t1 =>
          cases t1 with
          | cons hB t2 =>
          cases t2 with
          | cons hC t3 =>
          cases t3
          rcases this with rfl | rfl
          · exact k _ _ H4 (.tup a1 (.cons hA (.cons a2 (.cons hC .nil)))) (bad_two Wi.shp_any (.inl a3)) a4 (s12.trans a5)
          · exact k _ _ H4 (.tup a1 (.cons hA (.cons hB (.cons a2 .nil)))) (bad_two Wi.shp_any (.inr a3)) a4 (s12.trans a5)
    · obtain ⟨_, hh1, s1⟩ := e
      obtain ⟨ys1, hys1⟩ := hh1.ls
      refine st_setG (gv_draw hh1 (pa_c (pu_v rfl) (pa_c pu_c pa_n)) (by decide) Bd.small) ?_
      rintro _ H2 ⟨⟨m, rfl, m0, m8⟩, hh2, s2⟩
      have s12 := s1.trans s2
      have h2 : H2 a = some (.tup (.str u.word :: xs)) := s12 _ _ h fun z => by rw [z, hys] at h; cases h
      have td2 := DsAt.but hys s12 td
      obtain ⟨ys2, hys2⟩ := hh2.ls
      have fin : ∀ {r : V} {d : D} {H' : Hp}, DAt hd H' r d → bad d → HandAt H' hd sc → SameB hd H2 H' → Q r H' := fun {r d H'} a b c e => k r d H' a b c (s12.trans e)
      have finS : ∀ {r : V} {d : D} {H' : Hp}, DAt hd H' r d → bad d → Same H2 H' → Q r H' := fun {r d H'} a b e => fin a b (hh2.same e) e.b
      have tdx : DsAt hd H2 xs (u.parts.map Pa.d) := by
        cases td2 with
        | cons _ t => exact t
      have tdw : DAt hd H2 (.str u.word) (.str u.word) := by
        cases td2 with
        | cons t _ => exact t
      have xl : xs.length = u.parts.length := by simpa using zl
      have x1 : ∃ y1, (V.str u.word :: xs)[1]? = some y1 ∧ ∃ e1, DAt hd H2 y1 e1 := by
        have h1' : 1 < (V.str u.word :: xs).length := by rw [zl]; omega
        obtain ⟨d, _, hda⟩ := td2.get (List.getElem?_eq_getElem h1')
        exact ⟨_, List.getElem?_eq_getElem h1', d, hda⟩
      obtain ⟨y1, hy1, e1, hye⟩ := x1
      refine st_ifN (pt_t (pu_eqI (pu_v rfl) pu_c)) (fun _ => ?_) (fun _ => ?_)
      · refine st_retG (R := fun v H' => ∃ p, v = .ref p ∧ Same H2 H' ∧ H' p = some (.tup ((V.str u.word :: xs) ++ [y1]))) (gv_catT (R1 := fun v H' => v = .ref a ∧ H2 = H') (R2 := fun v w H' => ∃ q, v = .ref a ∧ w = .ref q ∧ Same H2 H' ∧ H' q = some (.tup [y1])) (Pu.gv' (pu_v rfl) ⟨rfl, rfl⟩) (fun x H' e => ?_) ?_) ?_
        · obtain ⟨rfl, rfl⟩ := e
          exact (gv_tup (pa_c (pu_ixT (pu_v rfl) pu_c (SqT.of h2) (atI_nat (j := 1) hy1)) pa_n) (by show 1 ≤ sizeLine; decide)).imp fun v H' ⟨q, hq, e1, e2⟩ => by
            subst e1 e2
            exact ⟨q, rfl, rfl, Same.upd hq, upd_same⟩
        · rintro _ _ H3 ⟨q, rfl, rfl, s3, hq⟩
          exact ⟨a, q, _, _, rfl, rfl, s3 _ _ h2, hq, by simp, by simp only [List.length_cons, List.length_nil]; omega, fun p H' s' e => ⟨p, rfl, s3.trans s', e⟩⟩
        · rintro _ H3 ⟨p, rfl, s3, hp⟩
          exact finS (.tup hp (ds_app (td2.same s3) (.cons (hye.same s3) .nil))) (bad_len (ds := u.parts.map Pa.d ++ [e1]) (by simp)) s3
      refine st_ifN (pt_t (pu_eqI (pu_v rfl) pu_c)) (fun _ => ?_) (fun _ => ?_)
      · refine st_retG (gv_slTo (k := 1) (pu_v rfl) pu_c h2 (by omega)) ?_
        rintro _ _ ⟨p, hp, rfl, rfl⟩
        exact finS (.tup upd_same (.cons (tdw.same (Same.upd hp)) .nil)) (bad_len (ds := []) (by simp only [List.length_nil]; omega)) (Same.upd hp)
      refine st_ifN (pt_t (pu_eqI (pu_v rfl) pu_c)) (fun _ => ?_) (fun _ => ?_)
      · refine st_retG (R := fun v H' => ∃ l, v = .ref l ∧ H2 l = none ∧ H' = upd H2 l (.lst (V.str u.word :: xs))) (fun Q q => (pa_c (pu_v rfl) pa_n : PuA (tCons (tVar 1) tNil) _ _ [.ref a]) _ ⟨a, _, rfl, .inr (SqT.of h2), fun l hl => q _ _ ⟨l, rfl, hl, rfl⟩⟩) ?_
        rintro _ _ ⟨l, rfl, hl, rfl⟩
        exact finS (.lst upd_same (Ne.symm (ne_of_none hys2 hl)) (td2.same (Same.upd hl))) (fun k => isW_no rfl) (Same.upd hl)
      refine st_ifN (pt_t (pu_eqI (pu_v rfl) pu_c)) (fun _ => ?_) (fun _ => ?_)
      · have W : ∀ {z : String}, ((∀ c ∈ (Str.ofString z).cps.toList, c < 128) ∧ (Str.ofString z).length ≤ 1000) → ∀ {σ : L2.St} {H0 : Hp}, DE hd σ H0 (tC (.str (Str.ofString z))) (.str (Str.ofString z)) := fun h => de_s h
        refine st_retG (R := fun v H' => ∃ p r d, v = .ref p ∧ H' p = some (.tup ([r] ++ xs)) ∧ DAt hd H' r d ∧ d ∈ nineD ∧ HandAt H' hd sc ∧ SameB hd H2 H') (gv_catT (R1 := fun v H' => ∃ p r d, v = .ref p ∧ H' p = some (.tup [r]) ∧ DAt hd H' r d ∧ d ∈ nineD ∧ HandAt H' hd sc ∧ SameB hd H2 H') (R2 := fun v w H' => ∃ p q r d, v = .ref p ∧ w = .ref q ∧ H' p = some (.tup [r]) ∧ H' q = some (.tup xs) ∧ DAt hd H' r d ∧ d ∈ nineD ∧ HandAt H' hd sc ∧ SameB hd H2 H') (gv_tupA (RA := fun vs H' => ∃ r d, vs = [r] ∧ DAt hd H' r d ∧ d ∈ nineD ∧ HandAt H' hd sc ∧ SameB hd H2 H') (fun Q q => ?_) ?_) ?_ ?_) ?_
        · refine ga_cons (R1 := fun r H' => ∃ d, DAt hd H' r d ∧ d ∈ nineD ∧ HandAt H' hd sc ∧ SameB hd H2 H') (fun Q q => ?_) (fun _ _ _ => ga_nil) _ (fun vs H' z => by obtain ⟨_, _, _, rfl, ⟨d, b1, b2, b3, b4⟩, rfl, rfl⟩ := z; exact q _ _ ⟨_, d, rfl, b1, b2, b3, b4⟩)
          refine (de_lst (ds := nineD) hys2 (da_c (W (by decide +kernel)) (da_c (W (by decide +kernel)) (da_c (W (by decide +kernel)) (da_c (W (by decide +kernel)) (da_c (W (by decide +kernel)) (da_c (W (by decide +kernel)) (da_c (de_lst hys2 (da_c (W (by decide +kernel)) da_n)) (da_c de_d (da_c (de_tup (da_c (W (by decide +kernel)) da_n)) da_n))))))))) (by decide)) H2 Same.rfl' _ ?_
          rintro v3 H3 ⟨s3, hv3⟩
          cases hv3 with
          | @lst l ws _ hl nl tl =>
            have l9 : ws.length = 9 := tl.len
            refine gv_draw (hh2.same s3) (pa_c (pu_v rfl) (pa_c pu_c pa_n)) (by decide) Bd.small _ ?_
            rintro _ H4 ⟨⟨i, rfl, i0, i9⟩, hh4, s4⟩
            have hi : i.toNat < ws.length := by omega
            obtain ⟨d, hdm, hda⟩ := tl.get (List.getElem?_eq_getElem hi)
            have hat : atI ws i = some ws[i.toNat] := by
              have := atI_nat (xs := ws) (j := i.toNat) (v := ws[i.toNat]) (List.getElem?_eq_getElem hi)
              rwa [show ((i.toNat : Nat) : Int) = i by omega] at this
            exact ⟨l, ws, i, _, rfl, rfl, SqL.of (s4 _ _ hl nl), hat, q _ _ ⟨d, DAt.but (s3 _ _ hys2) s4 hda, List.mem_of_getElem? hdm, hh4, s3.b.trans s4⟩⟩
        · rintro _ H4 ⟨r, d, rfl, a2, a3, a4, a5⟩
          exact ⟨by show 1 ≤ sizeLine; decide, fun p hp => ⟨p, r, d, rfl, upd_same, a2.same (Same.upd hp), a3, a4.same (Same.upd hp), a5.trans (Same.upd hp).b⟩⟩
        · rintro _ H4 ⟨p, r, d, rfl, a1, a2, a3, a4, a5⟩
          have h4 : H4 a = some (.tup (.str u.word :: xs)) := a5 _ _ h2 fun z => by rw [z, hys2] at h2; cases h2
          exact (gv_tl (pu_v rfl) h4).imp fun v H' ⟨q, hq, e1, e2⟩ => by
            subst e1 e2
            exact ⟨p, q, r, d, rfl, rfl, Same.upd hq _ _ a1, upd_same, a2.same (Same.upd hq), a3, a4.same (Same.upd hq), a5.trans (Same.upd hq).b⟩
        · rintro _ _ H4 ⟨p, q, r, d, rfl, rfl, a1, a2, a3, a4, a5, a6⟩
          exact ⟨p, q, _, _, rfl, rfl, a1, a2, by simp, by simp only [List.length_cons, List.length_nil]; omega, fun p' H' s' e => ⟨p', r, d, rfl, e, a3.same s', a4, a5.same s', a6.trans s'.b⟩⟩
        · rintro _ H4 ⟨p, r, d, rfl, a1, a2, a3, a4, a5⟩
          exact fin (.tup a1 (.cons a2 (DsAt.but hys2 a5 tdx))) (bad_first a3 _) a4 a5
      refine st_ifN (pt_t (pu_eqI (pu_v rfl) pu_c)) (fun _ => ?_) (fun _ => ?_)
      · exact st_ret pu_c (finS .non (fun k => isW_no rfl) Same.rfl')
      refine st_ifN (pt_t (pu_eqI (pu_v rfl) pu_c)) (fun _ => ?_) (fun _ => ?_)
      · refine st_retG (R := fun v H' => ∃ p, v = .ref p ∧ Same H2 H' ∧ H' p = some (.tup ([V.str u.word, .bl true] ++ (V.str u.word :: xs).drop 2))) (gv_catT (R1 := fun v H' => ∃ p, v = .ref p ∧ Same H2 H' ∧ H' p = some (.tup [V.str u.word, .bl true])) (R2 := fun v w H' => ∃ p q, v = .ref p ∧ w = .ref q ∧ Same H2 H' ∧ H' p = some (.tup [V.str u.word, .bl true]) ∧ H' q = some (.tup ((V.str u.word :: xs).drop 2))) ?_ ?_ ?_) ?_
        · exact (gv_tup (pa_c (pu_ixT (pu_v rfl) pu_c (SqT.of h2) at0) (pa_c pu_c pa_n)) len2).imp fun v H' ⟨q, hq, e1, e2⟩ => by
            subst e1 e2
            exact ⟨q, rfl, Same.upd hq, upd_same⟩
        · rintro _ H3 ⟨p, rfl, s3, hp⟩
          exact (gv_slFrom (k := 2) (pu_v rfl) pu_c (s3 _ _ h2) (by decide) (by omega)).imp fun v H' ⟨q, hq, e1, e2⟩ => by
            subst e1 e2
            exact ⟨p, q, rfl, rfl, s3.trans (Same.upd hq), Same.upd hq _ _ hp, upd_same⟩
        · rintro _ _ H3 ⟨p, q, rfl, rfl, s3, hp, hq⟩
          exact ⟨p, q, _, _, rfl, rfl, hp, hq, by simp, by rw [List.length_drop]; simp only [List.length_cons, List.length_nil]; omega, fun p' H' s' e => ⟨p', rfl, s3.trans s', e⟩⟩
        · rintro _ H3 ⟨p, rfl, s3, hp⟩
          exact finS (.tup hp (.cons (tdw.same s3) (.cons (.bl true) ((ds_drop 2 td2).same s3)))) (bad_true u _) s3
      refine st_ifN (pt_t (pu_eqI (pu_v rfl) pu_c)) (fun _ => ?_) (fun _ => ?_)
      · have six : ∀ x ∈ [Str.ofString "", Str.ofString "A", Str.ofString "a1", Str.ofString "abcdefghi", Str.ofString "a b", Str.ofString "_"], nameOk x = false ∧ (∀ c ∈ x.cps.toList, c < 128) ∧ x.length ≤ 1000 := by decide +kernel
        refine st_retG (R := fun v H' => ∃ p x, v = .ref p ∧ H' p = some (.tup ((V.str u.word :: xs).dropLast ++ [.str x])) ∧ x ∈ [Str.ofString "", Str.ofString "A", Str.ofString "a1", Str.ofString "abcdefghi", Str.ofString "a b", Str.ofString "_"] ∧ HandAt H' hd sc ∧ SameB hd H2 H') (gv_catT (R1 := fun v H' => ∃ p, v = .ref p ∧ p ≠ hd ∧ Same H2 H' ∧ H' p = some (.tup (V.str u.word :: xs).dropLast)) (R2 := fun v w H' => ∃ p q x, v = .ref p ∧ w = .ref q ∧ H' p = some (.tup (V.str u.word :: xs).dropLast) ∧ H' q = some (.tup [.str x]) ∧ x ∈ [Str.ofString "", Str.ofString "A", Str.ofString "a1", Str.ofString "abcdefghi", Str.ofString "a b", Str.ofString "_"] ∧ HandAt H' hd sc ∧ SameB hd H2 H') ?_ ?_ ?_) ?_
        · exact (gv_slLast (pu_v rfl) (pu_cast (pu_neg pu_c) rfl) h2 (by rw [zl]; omega)).imp fun v H' ⟨q, hq, e1, e2⟩ => by
            subst e1 e2
            exact ⟨q, rfl, Ne.symm (ne_of_none hys2 hq), Same.upd hq, upd_same⟩
        · rintro _ H3 ⟨p, rfl, np, s3, hp⟩
          refine gv_tupA (RA := fun vs H' => ∃ x, vs = [.str x] ∧ H' p = some (.tup (V.str u.word :: xs).dropLast) ∧ x ∈ [Str.ofString "", Str.ofString "A", Str.ofString "a1", Str.ofString "abcdefghi", Str.ofString "a b", Str.ofString "_"] ∧ HandAt H' hd sc ∧ SameB hd H2 H') (fun Q q => ?_) ?_
          · refine ga_cons (R1 := fun r H' => ∃ x, r = .str x ∧ H' p = some (.tup (V.str u.word :: xs).dropLast) ∧ x ∈ [Str.ofString "", Str.ofString "A", Str.ofString "a1", Str.ofString "abcdefghi", Str.ofString "a b", Str.ofString "_"] ∧ HandAt H' hd sc ∧ SameB hd H2 H') (fun Q q => ?_) (fun _ _ _ => ga_nil) _ (fun vs H' z => by obtain ⟨_, _, _, rfl, ⟨x, rfl, b1, b2, b3, b4⟩, rfl, rfl⟩ := z; exact q _ _ ⟨x, rfl, b1, b2, b3, b4⟩)
            refine gv_lst (vs := [Str.ofString "", Str.ofString "A", Str.ofString "a1", Str.ofString "abcdefghi", Str.ofString "a b", Str.ofString "_"].map V.str) (pa_c pu_c (pa_c pu_c (pa_c pu_c (pa_c pu_c (pa_c pu_c (pa_c pu_c pa_n)))))) (by decide) _ ?_
            rintro _ _ ⟨l, hl, rfl, rfl⟩
            have s4 : Same H2 (upd H3 l (.lst ([Str.ofString "", Str.ofString "A", Str.ofString "a1", Str.ofString "abcdefghi", Str.ofString "a b", Str.ofString "_"].map V.str))) := s3.trans (Same.upd hl)
            have nl : l ≠ hd := Ne.symm (ne_of_none (s3 _ _ hys2) hl)
            refine gv_draw (hh2.same s4) (pa_c (pu_v rfl) (pa_c pu_c pa_n)) (by decide) Bd.small _ ?_
            rintro _ H5 ⟨⟨i, rfl, i0, i6⟩, hh5, s5⟩
            have hi : i.toNat < [Str.ofString "", Str.ofString "A", Str.ofString "a1", Str.ofString "abcdefghi", Str.ofString "a b", Str.ofString "_"].length := by show i.toNat < 6; omega
            have hat : atI ([Str.ofString "", Str.ofString "A", Str.ofString "a1", Str.ofString "abcdefghi", Str.ofString "a b", Str.ofString "_"].map V.str) i = some (.str [Str.ofString "", Str.ofString "A", Str.ofString "a1", Str.ofString "abcdefghi", Str.ofString "a b", Str.ofString "_"][i.toNat]) := by
              have := atI_nat (xs := [Str.ofString "", Str.ofString "A", Str.ofString "a1", Str.ofString "abcdefghi", Str.ofString "a b", Str.ofString "_"].map V.str) (j := i.toNat) (v := .str [Str.ofString "", Str.ofString "A", Str.ofString "a1", Str.ofString "abcdefghi", Str.ofString "a b", Str.ofString "_"][i.toNat]) (by rw [List.getElem?_map, List.getElem?_eq_getElem hi]; rfl)
              rwa [show ((i.toNat : Nat) : Int) = i by omega] at this
            exact ⟨l, _, i, _, rfl, rfl, SqL.of (s5 _ _ upd_same nl), hat, q _ _ ⟨_, rfl, s5 _ _ (Same.upd hl _ _ hp) np, List.getElem_mem hi, hh5, s4.b.trans s5⟩⟩
          · rintro _ H4 ⟨x, rfl, a1, a2, a3, a4⟩
            exact ⟨by show 1 ≤ sizeLine; decide, fun q hq => ⟨p, q, x, rfl, rfl, Same.upd hq _ _ a1, upd_same, a2, a3.same (Same.upd hq), a4.trans (Same.upd hq).b⟩⟩
        · rintro _ _ H4 ⟨p, q, x, rfl, rfl, a1, a2, a3, a4, a5⟩
          refine ⟨p, q, _, _, rfl, rfl, a1, a2, ?_, by rw [List.length_dropLast]; simp only [List.length_cons, List.length_nil]; omega, fun p' H' s' e => ⟨p', x, rfl, e, a3, a4.same s', a5.trans s'.b⟩⟩
          intro z
          have := congrArg List.length z
          rw [List.length_dropLast, zl, List.length_nil] at this
          omega
        · rintro _ H4 ⟨p, x, rfl, a1, a3, a4, a5⟩
          have h6 := six x a3
          have td4 := DsAt.but hys2 a5 td2
          have e0 : (D.str u.word :: u.parts.map Pa.d).dropLast ++ [D.str x] = .str u.word :: ((u.parts.map Pa.d).dropLast ++ [.str x]) := by
            cases hp : u.parts with
            | nil => exact absurd hp pn
            | cons p r => rfl
          have hD : DAt hd H4 (.ref p) (.tup (.str u.word :: ((u.parts.map Pa.d).dropLast ++ [.str x]))) := .tup a1 (e0 ▸ ds_app (ds_dropLast td4) (.cons (.str x h6.2) .nil))
          exact fin hD (bad_last u h6.1) a4 a5
      exact st_ret (pu_ixT (pu_v rfl) pu_c (SqT.of h2) at0) (finS tdw (fun k => isW_no rfl) Same.rfl')
theorem okr_spoilt (T : Txt K mg t w) : ∀ n : Nat, FnOk P w K mg base CX0 (8 + n) t.f_l_spoilt t.d_l_spoilt ["_law_hand_here", "_law_wish_here"] (sp_l_spoilt n)
  | 0 => ((T.l_spoilt.F.okNo sc_l_spoilt).mono (by decide : 1 ≤ 8)).imp fun vs H Q E h => by
    obtain ⟨hd, sc, v, u, _, _, _, dp, _⟩ := h
    have := u.deep_pos
    omega
  | n + 1 => (okA_spoilt T (okr_spoilt T n) (by omega)).mono (by omega)
theorem ok_l_spoilt (T : Txt K mg t w) : FnOk P w K mg base CX0 14 t.f_l_spoilt t.d_l_spoilt ["_law_hand_here", "_law_wish_here"] (sp_l_spoilt 6) := okr_spoilt T 6
def sp_l_numbers_in (n : Nat) : Sp := fun vs H Q _ => ∃ (hd : Addr) (v : V) (u : Wi), vs = [v] ∧ DAt hd H v u.d ∧ u.deep ≤ n ∧ n ≤ 6 ∧ ∀ (l : Addr) (ns : List Int) H', Same H H' → H l = none → H' l = some (.lst (ns.map V.int)) → ns.length ≤ 2 ^ n → Q (.ref l) H'
theorem sc_l_numbers_in : FnScope ["_law_wish_here", "_law_numbers", "_law_part"] ["_law_wish_here"] (defScope s_l_numbers_in) := ⟨rfl, rfl, rfl, by decide +kernel, rfl, by decide +kernel, by decide +kernel⟩
theorem okA_numbers (T : Txt K mg t w) {n k : Nat} (GP : FnOk P w K mg base CX0 k t.f_l_numbers_in t.d_l_numbers_in ["_law_wish_here"] (sp_l_numbers_in n)) (hk : 5 ≤ k) : FnOk P w K mg base CX0 (k + 1) t.f_l_numbers_in t.d_l_numbers_in ["_law_wish_here"] (sp_l_numbers_in (n + 1)) := by
  have ok_l_numbers_in := fun (_ : Txt K mg t w) => GP
  refine T.l_numbers_in.F.ok (k := k) sc_l_numbers_in (fun vs H Q E h => ?_) (fun cdv A outer s H vs Q E hr h => ?_)
  · obtain ⟨hd, v, u, rfl, _⟩ := h
    rfl
  · obtain ⟨hd, v, u, rfl, hv, dp, n6, k⟩ := h
    refine ⟨_, (@pss_cons _ _ _ _ _ (@ps_if _ _ _ _ _ _ _ _ (@pt_cmpR _ _ _ _ _ _ _ _ op_eq (@pe_ix _ _ _ _ _ _ _ ix_tup (pv 0) (@pe_int _ _ _ _) (fun _ _ => rfl)) (@pe_str _ _ _ _) (nomark _)) (@pss_one _ _ _ (@ps_ret _ _ _ _ (@pe_lst _ _ _ _ (@pa_cons _ _ _ _ _ (@pe_ix _ _ _ _ _ _ _ ix_tup (pv 0) (@pe_int _ _ _ _) (fun _ _ => rfl)) (@pa_nil _) star_sub)))) (@pss_nil _)) (@pss_cons _ _ _ _ _ (@ps_set _ _ 1 _ _ _ _ sc_l_numbers_in.nd rfl (Or.inl rfl) (@pe_lst _ _ _ _ (@pa_nil _)) (by rfl) (by first | exact .inl rfl | exact .inr rfl | assumption)) (@pss_cons _ _ _ _ _ (@ps_for _ _ _ _ _ _ _ _ PassesOwn.never rfl (@pi_tup _ _ _ _ (@pe_slice _ _ _ _ _ _ _ _ _ _ sl_tup (pv 0) (@po_some _ _ _ (@pe_int _ _ _ _)) (@po_none _))) (@pg_name _ _ 2 _ sc_l_numbers_in.nd rfl (Or.inl rfl) (by first | exact .inl rfl | exact .inr rfl | assumption)) (@pss_one _ _ _ (@ps_if _ _ _ _ _ _ _ _ (@pt_val _ _ _ (@pe_callB _ _ _ _ _ _ _ _ _ call_isinst (by rfl) T.b_isinstance PyProof.Rows.boot_isinstance (@pa_cons _ _ _ _ _ (pv 2) (@pa_cons _ _ _ _ _ (@pe_ty _ _ _ _ T.b_tuple PyProof.Rows.boot_tuple (by rfl) (by decide) (by decide)) (@pa_nil _) star_name) star_name) (by decide) (by decide) (by rfl) (by rfl)) (by intro _; rfl)) (@pss_one _ _ _ (@ps_set _ _ 1 _ _ _ _ sc_l_numbers_in.nd rfl (Or.inl rfl) (@pe_op _ _ _ _ _ _ _ _ op_cat (pv 1) (@pe_fn _ _ _ _ _ _ _ _ _ _ _ _ _ _ T.l_numbers_in (ok_l_numbers_in T) hr (by omega) (@pa_cons _ _ _ _ _ (pv 2) (@pa_nil _) star_name) (by rfl) (by decide) (by rfl) (by rfl))) (by rfl) (by first | exact .inl rfl | exact .inr rfl | assumption))) (@pss_nil _))) (by intro _; rfl)) (@pss_one _ _ _ (@ps_ret _ _ _ _ (pv 1)))))), ?_⟩
    have p1 : 1 ≤ 2 ^ n := Nat.pow_pos (by decide)
    have p6 : 2 ^ n ≤ 2 ^ 6 := Nat.pow_le_pow_right (by decide) (by omega)
    have big : 1000 ≤ sizeLine := by decide
    have d1 := (u.deep_iff n).mp dp
    have pl := u.parts_le
    by_cases hw : u.word = Str.ofString "round"
    case pos =>
      have : ∃ x z, u = .rnd x z := by
        cases u with
        | rnd x z => exact ⟨x, z, rfl⟩
        | inn x => exact absurd hw (by show ¬ Str.ofString "in" = _; decide +kernel)
        | lst z => exact absurd hw (by show ¬ Str.ofString "least" = _; decide +kernel)
        | no u => exact absurd hw (by show ¬ Str.ofString "no" = _; decide +kernel)
        | both a b => exact absurd hw (by show ¬ Str.ofString "both" = _; decide +kernel)
        | any a b => exact absurd hw (by show ¬ Str.ofString "any" = _; decide +kernel)
      obtain ⟨x, z, rfl⟩ := this
      cases hv with
      | tup h td =>
      cases td with
      | cons h0 td =>
      cases h0
      cases td with
      | cons h1 td =>
      cases h1
      cases td with
      | cons h2 td =>
      cases h2
      cases td
      refine st_ifN (pt_t (pu_eqStr (pu_ixT (pu_v rfl) pu_c (SqT.of h) at0) pu_c)) (fun _ => ?_) (fun e => absurd e (by decide +kernel))
      refine st_retG (gv_lst (pa_c (pu_ixT (pu_v rfl) pu_c (SqT.of h) at2) pa_n) (by show 1 ≤ sizeLine; decide)) ?_
      rintro _ _ ⟨p, hp, rfl, rfl⟩
      exact k p [z] _ (Same.upd hp) hp upd_same (Nat.pow_pos (by decide))
    rw [u.d_eq] at hv
    cases hv with
    | @tup a xs ds h td =>
      cases td with
      | @cons x0 d0 xs ds h0 td =>
        cases h0
        have hlen := td.len
        rw [List.length_map] at hlen
        refine st_ifN (pt_t (pu_eqStr (pu_ixT (pu_v rfl) pu_c (SqT.of h) at0) pu_c)) (fun e => absurd (of_decide_eq_true e) hw) (fun _ => ?_)
        refine st_setG (gv_lst (vs := []) pa_n (by decide)) ?_
        rintro _ _ ⟨l0, hl0, rfl, rfl⟩
        refine st_tuplG (gv_tl (pu_v rfl) (Same.upd hl0 _ _ h)) ?_
        rintro _ _ ⟨q0, hq0, rfl, rfl⟩
        have s0 : Same H (upd (upd H l0 (.lst [])) q0 (.tup xs)) := (Same.upd hl0).trans (Same.upd hq0)
        have t0 : (upd (upd H l0 (.lst [])) q0 (.tup xs)) q0 = some (.tup xs) := upd_same
        have e0 : (upd (upd H l0 (.lst [])) q0 (.tup xs)) l0 = some (.lst []) := by rw [upd_ne (ne_of_none upd_same hq0), upd_same]
        revert s0 t0 e0
        generalize upd (upd H l0 (.lst [])) q0 (.tup xs) = H0
        intro s0 t0 e0
        refine st_tupl (K := K) (xs := xs) pu_c (fun i σ H' => Same H0 H' ∧ ∃ (l : Addr) (ns : List Int) (z : Option V), H l = none ∧ H' l = some (.lst (ns.map V.int)) ∧ ns.length ≤ i * 2 ^ n ∧ σ = [some (.ref a), some (.ref l), z]) ⟨Same.rfl', l0, [], none, hl0, e0, by simp, rfl⟩ (fun i σ H' _ ⟨s', _⟩ => SqT.of (s' _ _ t0)) ?_ ?_
        · rintro i y σ H1 hy ⟨s1, l, ns, z, hl, hl1, hns, rfl⟩
          obtain ⟨di, hdi, hy'⟩ := td.get hy
          rw [List.getElem?_map] at hdi
          cases hpi : u.parts[i]? with
          | none => rw [hpi] at hdi; cases hdi
          | some p =>
            rw [hpi] at hdi
            have e1 : p.d = di := Option.some.inj hdi
            subst e1
            have hm := List.mem_of_getElem? hpi
            have hi : i < u.parts.length := (List.getElem?_eq_some_iff.mp hpi).1
            have hy1 := hy'.same (s0.trans s1)
            refine st_ifG1 (R := fun b H' => b = p.d.isTup ∧ H1 = H') (PuT.gt (pt_b (pu_isi (pa_c (pu_v rfl) (pa_c pu_c pa_n)) hy1.ty (kd_tup p.d))) ⟨rfl, rfl⟩) (fun H' e => ?_) (fun H' e => ?_)
            · obtain ⟨e, rfl⟩ := e
              cases p with
              | nm s => cases e
              | nb z => cases e
              | ws w' =>
                refine st_setG1 (R := fun v H' => ∃ (l' : Addr) (ns' : List Int), v = .ref l' ∧ H l' = none ∧ Same H1 H' ∧ H' l' = some (.lst (ns'.map V.int)) ∧ ns'.length ≤ (i + 1) * 2 ^ n) (gv_opG (R1 := fun v H' => v = .ref l ∧ H1 = H') (R2 := fun x y H' => ∃ (l2 : Addr) (ns2 : List Int), x = .ref l ∧ y = .ref l2 ∧ Same H1 H' ∧ H' l2 = some (.lst (List.map V.int ns2)) ∧ ns2.length ≤ 2 ^ n) (Pu.gv' (pu_v rfl) ⟨rfl, rfl⟩) (fun x H2 e => ?_) ?_) ?_
                · obtain ⟨rfl, rfl⟩ := e
                  exact gv_call (pa_c (pu_v rfl) pa_n) fun Q q => ⟨hd, y, w', rfl, hy1, d1 _ hm, by omega, fun l2 ns2 H' s _ h2 hn => q _ _ ⟨l2, ns2, rfl, rfl, s, h2, hn⟩⟩
                · rintro _ _ H2 ⟨l2, ns2, rfl, rfl, s2, h2, hn2⟩ Q q
                  refine ⟨l, l2, _, _, rfl, rfl, s2 _ _ hl1, h2, ?_, fun p hp => q _ _ ⟨p, ns ++ ns2, rfl, ?_, s2.trans (Same.upd hp), ?_, ?_⟩⟩
                  · rw [List.length_map, List.length_map]
                    have : i * 2 ^ n ≤ 1 * 2 ^ n := Nat.mul_le_mul_right _ (by omega)
                    omega
                  · cases hc : H p with
                    | none => rfl
                    | some o =>
                      have := s2 _ _ (s1 _ _ (s0 _ _ hc))
                      rw [this] at hp
                      cases hp
                  · rw [upd_same, List.map_append]
                  · rw [List.length_append, Nat.succ_mul]
                    omega
                · rintro _ H2 ⟨l', ns', rfl, hl', s2, h2, hn'⟩
                  exact ⟨s1.trans s2, l', ns', _, hl', h2, hn', rfl⟩
            · obtain ⟨e, rfl⟩ := e
              exact ⟨s1, l, ns, _, hl, hl1, by rw [Nat.succ_mul]; omega, rfl⟩
        · rintro σ H1 ⟨s1, l, ns, z, hl, hl1, hns, rfl⟩
          refine st_ret (pu_v rfl) (k l ns H1 (s0.trans s1) hl hl1 ?_)
          rw [hlen] at hns
          have : u.parts.length * 2 ^ n ≤ 2 * 2 ^ n := Nat.mul_le_mul_right _ pl
          rw [Nat.pow_succ]
          omega
theorem okr_numbers (T : Txt K mg t w) : ∀ n : Nat, FnOk P w K mg base CX0 (5 + n) t.f_l_numbers_in t.d_l_numbers_in ["_law_wish_here"] (sp_l_numbers_in n)
  | 0 => ((T.l_numbers_in.F.okNo sc_l_numbers_in).mono (by decide : 1 ≤ 5)).imp fun vs H Q E h => by
    obtain ⟨hd, v, u, _, _, dp, _⟩ := h
    have := u.deep_pos
    omega
  | n + 1 => (okA_numbers T (okr_numbers T n) (by omega)).mono (by omega)
theorem ok_l_numbers_in (T : Txt K mg t w) : FnOk P w K mg base CX0 11 t.f_l_numbers_in t.d_l_numbers_in ["_law_wish_here"] (sp_l_numbers_in 6) := okr_numbers T 6
theorem putR_any (n : Str) (k : Int) (rs : List (Str × Int)) : ((putR rs n k).any fun p => decide (p.1 = n)) = true := by
  unfold putR
  split
  · rename_i e
    rw [List.any_map]
    obtain ⟨p, hp, z⟩ := List.any_eq_true.mp e
    refine List.any_eq_true.mpr ⟨p, hp, ?_⟩
    have z' := of_decide_eq_true z
    simp [z']
  · simp
theorem putR_in {n : Str} {k : Int} {rs : List (Str × Int)} (h : (rs.any fun p => decide (p.1 = n)) = true) : (putR rs n k).length = rs.length := by
  unfold putR
  rw [if_pos h, List.length_map]
def sp_l_rounds_for : Sp := fun vs H Q _ => ∃ (hd sc nl sl : Addr) (ts : List Str) (ns : List Int), vs = [.ref hd, .ref nl, .ref sl] ∧ HandAt H hd sc ∧ nl ≠ hd ∧ H nl = some (.lst (ts.map V.str)) ∧ ts.length ≤ 4 ∧ sl ≠ hd ∧ H sl = some (.lst (ns.map V.int)) ∧ ns.length ≤ 1000 ∧ ∀ (d : Addr) (rs : List (Str × Int)) H', H d = none → H' d = some (.dK (kvR rs)) → rs.length ≤ 4 → (rs.map (·.1)).Nodup → HandAt H' hd sc → SameB hd H H' → Q (.ref d) H'
theorem sc_l_rounds_for : FnScope ["_law_hand_here", "_law_names_here", "_law_some", "_law_rounds", "_law_name_here"] ["_law_hand_here", "_law_names_here", "_law_some"] (defScope s_l_rounds_for) := ⟨rfl, rfl, rfl, by decide +kernel, rfl, by decide +kernel, by decide +kernel⟩
theorem ok_l_rounds_for (T : Txt K mg t w) : FnOk P w K mg base CX0 5 t.f_l_rounds_for t.d_l_rounds_for ["_law_hand_here", "_law_names_here", "_law_some"] sp_l_rounds_for := by
  refine T.l_rounds_for.F.ok (k := 4) sc_l_rounds_for (fun vs H Q E h => ?_) (fun cdv A outer s H vs Q E hr h => ?_)
  · obtain ⟨hd, sc, nl, sl, ts, ns, rfl, _⟩ := h
    rfl
  · obtain ⟨hd, sc, nl, sl, ts, ns, rfl, hh, n1, hnl, h4, n2, hsl, h1000, k⟩ := h
    refine ⟨_, (@pss_cons _ _ _ _ _ (@ps_set _ _ 3 _ _ _ _ sc_l_rounds_for.nd rfl (Or.inl rfl) pe_dnewK (by rfl) (by first | exact .inl rfl | exact .inr rfl | assumption)) (@pss_cons _ _ _ _ _ (@ps_for _ _ _ _ _ _ _ _ PassesOwn.never rfl (@pi_list _ _ _ _ (pv 1)) (@pg_name _ _ 4 _ sc_l_rounds_for.nd rfl (Or.inl rfl) (by first | exact .inl rfl | exact .inr rfl | assumption)) (@pss_one _ _ _ (@ps_if _ _ _ _ _ _ _ _ (@pt_cmpR _ _ _ _ _ _ _ _ op_gt (@pe_fn _ _ _ _ _ _ _ _ _ _ _ _ _ _ T.l_draw (ok_l_draw T) hr (by decide) (@pa_cons _ _ _ _ _ (pv 0) (@pa_cons _ _ _ _ _ (@pe_int _ _ _ _) (@pa_nil _) star_con) star_name) (by rfl) (by decide) (by rfl) (by rfl)) (@pe_int _ _ _ _) (nomark _)) (@pss_cons _ _ _ _ _ (ps_dput (hu_of hr) (pv 3) (pv 4) (@pe_fn _ _ _ _ _ _ _ _ _ _ _ _ _ _ T.l_number (ok_l_number T) hr (by decide) (@pa_cons _ _ _ _ _ (pv 0) (@pa_nil _) star_name) (by rfl) (by decide) (by rfl) (by rfl)) rfl) (@pss_one _ _ _ (@ps_if _ _ _ _ _ _ _ _ (PW.pt (@pw_and _ _ _ _ _ _ _ (@pt_cmpR _ _ _ _ _ _ _ _ op_gt (@pe_callB _ _ _ _ _ _ _ _ _ call_len_seq (by rfl) T.b_len PySem.boot_len (@pa_cons _ _ _ _ _ (pv 2) (@pa_nil _) star_name) (by decide) (by decide) (by rfl) (by rfl)) (@pe_int _ _ _ _) (nomark _)) (@pw_and1 _ _ _ _ (@pt_cmpR _ _ _ _ _ _ _ _ op_eq (@pe_fn _ _ _ _ _ _ _ _ _ _ _ _ _ _ T.l_draw (ok_l_draw T) hr (by decide) (@pa_cons _ _ _ _ _ (pv 0) (@pa_cons _ _ _ _ _ (@pe_int _ _ _ _) (@pa_nil _) star_con) star_name) (by rfl) (by decide) (by rfl) (by rfl)) (@pe_int _ _ _ _) (nomark _))))) (@pss_one _ _ _ (ps_dput (hu_of hr) (pv 3) (pv 4) (@pe_ix _ _ _ _ _ _ _ ix_list (pv 2) (@pe_fn _ _ _ _ _ _ _ _ _ _ _ _ _ _ T.l_draw (ok_l_draw T) hr (by decide) (@pa_cons _ _ _ _ _ (pv 0) (@pa_cons _ _ _ _ _ (@pe_callB _ _ _ _ _ _ _ _ _ call_len_seq (by rfl) T.b_len PySem.boot_len (@pa_cons _ _ _ _ _ (pv 2) (@pa_nil _) star_name) (by decide) (by decide) (by rfl) (by rfl)) (@pa_nil _) star_call) star_name) (by rfl) (by decide) (by rfl) (by rfl)) (fun _ _ => rfl)) rfl)) (@pss_nil _)))) (@pss_nil _))) (by intro _; rfl)) (@pss_one _ _ _ (@ps_ret _ _ _ _ (pv 3))))), ?_⟩
    refine st_setG gv_newD ?_
    rintro _ _ ⟨d, hd0, rfl, rfl⟩
    have nd := hh.fresh hd0
    refine st_list (K := K) (xs := ts.map V.str) (pu_v rfl) (fun i σ H' => ∃ (rs : List (Str × Int)) (z : Option V), H' d = some (.dK (kvR rs)) ∧ rs.length ≤ i ∧ (rs.map (·.1)).Nodup ∧ HandAt H' hd sc ∧ SameB hd H H' ∧ σ = [some (.ref hd), some (.ref nl), some (.ref sl), some (.ref d), z]) ⟨[], none, upd_same, Nat.le_refl _, List.nodup_nil, hh.same (Same.upd hd0), (Same.upd hd0).b, rfl⟩ (fun i σ H' _ ⟨rs, z, _, _, _, _, s', _⟩ => SqL.of (s' _ _ hnl n1)) ?_ ?_
    · rintro i x σ H1 hx ⟨rs, z, hd1, rl, rn, hh1, s1, rfl⟩
      have hi : i < ts.length := by
        have := (List.getElem?_eq_some_iff.mp hx).1
        rwa [List.length_map] at this
      have hx' : ∃ y, x = .str y := by
        rw [List.getElem?_map] at hx
        cases e : ts[i]? with
        | none => rw [e] at hx; cases hx
        | some y => rw [e] at hx; exact ⟨y, (Option.some.inj hx).symm⟩
      obtain ⟨y, rfl⟩ := hx'
      have UP : ∀ {H2 : Hp} {o : HO}, SameB hd H H2 → SameB hd H (upd H2 d o) := fun {H2 o} s b u e n => by
        rw [upd_ne (ne_of_none e hd0)]
        exact s b u e n
      refine st_ifNG1 (R := fun _ H' => HandAt H' hd sc ∧ SameB hd H1 H') (fun Q q => ?_) (fun H2 r => ?_) (fun H2 r => ⟨rs, _, r.2 _ _ hd1 nd.1, by omega, rn, r.1, s1.trans r.2, rfl⟩)
      · refine gv_draw hh1 (pa_c (pu_v rfl) (pa_c pu_c pa_n)) (by decide) Bd.small _ ?_
        rintro _ H2 ⟨⟨m, rfl, _, _⟩, hh2, s2⟩
        exact ⟨_, _, rfl, rfl, _, rfl, q _ _ ⟨hh2, s2⟩⟩
      refine st_putR (d := d) (RY := fun v H1 w H2 => w = .str y ∧ H1 = H2) (gv_number r.1 (pa_c (pu_v rfl) pa_n)) (fun v H3 e => ⟨pu_v rfl, Pu.gv' (pu_v rfl) ⟨rfl, rfl⟩⟩) ?_
      rintro _ H3 _ _ ⟨⟨m, rfl⟩, hh3, s3⟩ ⟨rfl, rfl⟩
      have hd3 := s3 _ _ (r.2 _ _ hd1 nd.1) nd.1
      refine ⟨rs, y, m, rfl, rfl, hd3, by omega, ?_⟩
      have s4 : SameB hd H (upd H3 d (.dK (kvR (putR rs y m)))) := UP ((s1.trans r.2).trans s3)
      have hh4 : HandAt (upd H3 d (.dK (kvR (putR rs y m)))) hd sc := hh3.upd nd
      have hd4 : (upd H3 d (.dK (kvR (putR rs y m)))) d = some (.dK (kvR (putR rs y m))) := upd_same
      have l4 := putR_len y m rs
      have nd4 := putR_nd y m rn
      have in4 := putR_any y m rs
      revert s4 hh4 hd4 l4 nd4 in4
      generalize upd H3 d (.dK (kvR (putR rs y m))) = H4
      generalize putR rs y m = rs4
      intro s4 hh4 hd4 l4 nd4 in4
      refine st_ifNG1 (R := fun b H' => (b = true → 0 < ns.length) ∧ HandAt H' hd sc ∧ SameB hd H4 H') (gt_and (R := fun b H' => b = decide (0 < (ns.length : Int)) ∧ H4 = H') (PuT.gt (pt_t (pu_cast (pu_gt (pu_lenL (pa_c (pu_v rfl) pa_n) (SqL.of (s4 _ _ hsl n2))) pu_c) (by rw [List.length_map]))) ⟨rfl, rfl⟩) (fun H' e => ?_) (fun H' e => by obtain ⟨_, rfl⟩ := e; exact ⟨(fun z => by cases z), hh4, SameB.refl _ _⟩)) (fun H5 e => ?_) (fun H5 e => ⟨rs4, _, e.2.2 _ _ hd4 nd.1, by omega, nd4, e.2.1, s4.trans e.2.2, rfl⟩)
      · obtain ⟨e, rfl⟩ := e
        have c := of_decide_eq_true e.symm
        intro Q q
        refine gv_draw hh4 (pa_c (pu_v rfl) (pa_c pu_c pa_n)) (by decide) Bd.small _ ?_
        rintro _ H5 ⟨⟨m', rfl, _, _⟩, hh5, s5⟩
        exact ⟨rfl, _, rfl, q _ _ ⟨fun _ => by omega, hh5, s5⟩⟩
      · have hpos := e.1 rfl
        have hsl5 : H5 sl = some (.lst (ns.map V.int)) := (s4.trans e.2.2) _ _ hsl n2
        refine st_putR1 (d := d) (RV := fun v H' => (∃ m : Int, v = .int m) ∧ HandAt H' hd sc ∧ SameB hd H5 H') (RY := fun v H1 w H2 => w = .str y ∧ H1 = H2) (fun Q q => ?_) (fun v H3 e => ⟨pu_v rfl, Pu.gv' (pu_v rfl) ⟨rfl, rfl⟩⟩) ?_
        · refine pu_v (v := .ref sl) rfl _ (gv_draw (m := (ns.length : Int)) e.2.1 (pa_c (pu_v rfl) (pa_c (pu_cast (pu_lenL (pa_c (pu_v rfl) pa_n) (SqL.of hsl5)) (by rw [List.length_map])) pa_n)) (by omega) (Bd.small (by omega)) _ ?_)
          rintro _ H6 ⟨⟨m', rfl, m0, m1⟩, hh6, s6⟩
          have hm : m'.toNat < ns.length := by omega
          have hat : atI (ns.map V.int) m' = some (.int ns[m'.toNat]) := by
            have := atI_nat (xs := ns.map V.int) (j := m'.toNat) (v := .int ns[m'.toNat]) (by simp [hm])
            rwa [show ((m'.toNat : Nat) : Int) = m' by omega] at this
          exact ⟨sl, _, m', _, rfl, rfl, SqL.of (s6 _ _ hsl5 n2), hat, q _ _ ⟨⟨_, rfl⟩, hh6, s6⟩⟩
        · rintro _ H6 _ _ ⟨⟨m', rfl⟩, hh6, s6⟩ ⟨rfl, rfl⟩
          have hd6 := s6 _ _ (e.2.2 _ _ hd4 nd.1) nd.1
          exact ⟨rs4, y, m', rfl, rfl, hd6, by omega, putR rs4 y m', _, upd_same, by rw [putR_in in4]; omega, putR_nd y m' nd4, hh6.upd nd, UP ((s4.trans e.2.2).trans s6), rfl⟩
    · rintro σ H1 ⟨rs, z, hd1, rl, rn, hh1, s1, rfl⟩
      exact st_ret (pu_v rfl) (k d rs H1 hd0 hd1 (by rw [List.length_map] at rl; omega) rn hh1 s1)
def sp_law (K : PySem.W.Frag) : Sp := fun vs H Q _ => ∃ (a : Addr) (ns : List Int), vs = [.ref a] ∧ SqL K H a (ns.map V.int) ∧ ns.length ≤ 63 ∧ ∀ H', Q (.bl true) H'
theorem gt_isnB {σ : L2.St} {H : Hp} {ta : TE} {b c : Bool} {R : Hp → Prop} (ha : Gv ta σ H (fun v H' => v = .bl b ∧ R H')) : GvT (tTest (tOp (fun x y H Q => ∃ b c, x = .bl b ∧ y = .bl c ∧ Q (.bl (!decide (b = c))) H) ta (tC (.bl c)))) σ H (fun b' H' => b' = (!decide (b = c)) ∧ R H') := fun Q q => ha _ fun v H' r => by
  obtain ⟨rfl, s⟩ := r
  exact ⟨b, c, rfl, rfl, _, rfl, q _ _ ⟨rfl, s⟩⟩
theorem gt_neBB {σ : L2.St} {H : Hp} {ta tb : TE} {b c : Bool} {R : Hp → Prop} (ha : Pu ta σ H (.bl b)) (hb : Gv tb σ H (fun v H' => v = .bl c ∧ R H')) : GvT (tTest (tOp rNe ta tb)) σ H (fun x H' => x = (!(b == c)) ∧ R H') := fun Q q => ha _ (hb _ fun v H' r => by
  obtain ⟨rfl, s⟩ := r
  exact (pt_t (pu_neB (ta := tC (.bl b)) (tb := tC (.bl c)) pu_c pu_c) : PuT _ [] H' _) Q (q _ _ ⟨rfl, s⟩))
theorem pt_neD {σ : L2.St} {H : Hp} {ta tb : TE} {a b : Addr} {rs : List (Str × Int)} (ha : Pu ta σ H (.ref a)) (hb : Pu tb σ H (.ref b)) (h1 : H a = some (.dK (kvR rs))) (h2 : H b = some (.dK (kvR rs))) : PuT (tTest (tOp (fun x y H Q => ∃ a b kvs, x = .ref a ∧ y = .ref b ∧ H a = some (.dK kvs) ∧ H b = some (.dK kvs) ∧ (∀ p ∈ kvs, ∃ n, p.2 = .int n) ∧ Q (.bl false) H) ta tb)) σ H false := fun Q q => ha _ (hb _ ⟨a, b, kvR rs, rfl, rfl, h1, h2, fun x hx => by
  obtain ⟨y, _, rfl⟩ := List.mem_map.mp hx
  exact ⟨y.2, rfl⟩, false, rfl, q⟩)
theorem Wi.tups {hd : Addr} {H H' : Hp} (t : ∀ b xs, H b = some (.tup xs) → H' b = some (.tup xs)) : ∀ (u : Wi) {v : V}, DAt hd H v u.d → DAt hd H' v u.d
  | .inn _, _, .tup h (.cons (.str _ a) (.cons (.str _ b) .nil)) => .tup (t _ _ h) (.cons (.str _ a) (.cons (.str _ b) .nil))
  | .rnd _ _, _, .tup h (.cons (.str _ a) (.cons (.str _ b) (.cons (.int _) .nil))) => .tup (t _ _ h) (.cons (.str _ a) (.cons (.str _ b) (.cons (.int _) .nil)))
  | .lst _, _, .tup h (.cons (.str _ a) (.cons (.int _) .nil)) => .tup (t _ _ h) (.cons (.str _ a) (.cons (.int _) .nil))
  | .no u, _, .tup h (.cons (.str _ a) (.cons b .nil)) => .tup (t _ _ h) (.cons (.str _ a) (.cons (Wi.tups t u b) .nil))
  | .both u v, _, .tup h (.cons (.str _ a) (.cons b (.cons c .nil))) => .tup (t _ _ h) (.cons (.str _ a) (.cons (Wi.tups t u b) (.cons (Wi.tups t v c) .nil)))
  | .any u v, _, .tup h (.cons (.str _ a) (.cons b (.cons c .nil))) => .tup (t _ _ h) (.cons (.str _ a) (.cons (Wi.tups t u b) (.cons (Wi.tups t v c) .nil)))
theorem upd_lst {H : Hp} {d : Addr} {kvs : List (Key × V)} {o : HO} (e : H d = some (.dK kvs)) {b : Addr} {xs : List V} (h : H b = some (.lst xs)) : upd H d o b = some (.lst xs) := by
  rw [upd_ne]
  · exact h
  · rintro rfl
    rw [e] at h
    cases h
theorem hand_updD {H : Hp} {d hd sc : Addr} {kvs : List (Key × V)} {o : HO} (h : HandAt H hd sc) (e : H d = some (.dK kvs)) : HandAt (upd H d o) hd sc := by
  obtain ⟨ns, i, b, c, p, q, g1, g2, g3⟩ := h
  exact ⟨ns, i, b, c, p, q, upd_lst e g1, upd_lst e g2, g3⟩
theorem ne_of_lst {H : Hp} {dl d1 d2 hd sc : Addr} (h : H dl = some (.lst [.ref d1, .ref d2])) (hh : HandAt H hd sc) : dl ≠ hd := by
  obtain ⟨ns, i, b, c, p, q, g1, g2, g3⟩ := hh
  rintro rfl
  rw [g1] at h
  cases h
/-- what stands at the turns of the last loop -/
def Inv6 (H : Hp) (hd sc nl dl d1 d2 : Addr) (ts : List Str) (v v6 : V) (u u6 : Wi) (i : Nat) : Prop :=
  HandAt H hd sc ∧ H nl = some (.lst (ts.map V.str)) ∧ H dl = some (.lst [.ref d1, .ref d2]) ∧ DAt hd H v u.d ∧ DAt hd H v6 u6.d ∧
  (∃ rs, H d1 = some (.dK (kvR rs)) ∧ rs.length ≤ 4 + i ∧ (rs.map (·.1)).Nodup) ∧ ∃ rs, H d2 = some (.dK (kvR rs)) ∧ rs.length ≤ 4 + i ∧ (rs.map (·.1)).Nodup
theorem sc_law : FnScope ["_law_script", "_law_hand_here", "_law_names_here", "_law_wish_here", "_law_six", "_law_seven", "_law_good", "_law_far", "_law_k", "_law_bad", "_law_some", "_law_dicts", "_law_rounds", "_law_asked", "_law_kept", "_law_told"] ["_law_script"] (defScope s_law) := ⟨rfl, rfl, rfl, by decide +kernel, rfl, by decide +kernel, by decide +kernel⟩
theorem ok_law (T : Txt K mg t w) : FnOk P w K mg base CX0 22 t.f_law t.d_law ["_law_script"] (sp_law K) := by
  refine T.law.F.ok (k := 21) sc_law (fun vs H Q E h => ?_) (fun cdv A outer s H vs Q E hr h => ?_)
  · obtain ⟨a, ns, rfl, _⟩ := h
    rfl
  · obtain ⟨sa, ns, rfl, hS, hlen, k⟩ := h
    refine ⟨_, (@pss_cons _ _ _ _ _ (@ps_set _ _ 1 _ _ _ _ sc_law.nd rfl (Or.inl rfl) (@pe_fn _ _ _ _ _ _ _ _ _ _ _ _ _ _ T.l_hand (ok_l_hand T) hr (by decide) (@pa_cons _ _ _ _ _ (pv 0) (@pa_nil _) star_name) (by rfl) (by decide) (by rfl) (by rfl)) (by rfl) (by first | exact .inl rfl | exact .inr rfl | assumption)) (@pss_cons _ _ _ _ _ (@ps_set _ _ 2 _ _ _ _ sc_law.nd rfl (Or.inl rfl) (@pe_fn _ _ _ _ _ _ _ _ _ _ _ _ _ _ T.l_names (ok_l_names T) hr (by decide) (@pa_cons _ _ _ _ _ (pv 1) (@pa_cons _ _ _ _ _ (@pe_int _ _ _ _) (@pa_nil _) star_con) star_name) (by rfl) (by decide) (by rfl) (by rfl)) (by rfl) (by first | exact .inl rfl | exact .inr rfl | assumption)) (@pss_cons _ _ _ _ _ (@ps_set _ _ 3 _ _ _ _ sc_law.nd rfl (Or.inl rfl) (@pe_fn _ _ _ _ _ _ _ _ _ _ _ _ _ _ T.l_wish (ok_l_wish T) hr (by decide) (@pa_cons _ _ _ _ _ (pv 1) (@pa_cons _ _ _ _ _ (pv 2) (@pa_cons _ _ _ _ _ (@pe_op _ _ _ _ _ _ _ _ op_add (@pe_int _ _ _ _) (@pe_fn _ _ _ _ _ _ _ _ _ _ _ _ _ _ T.l_draw (ok_l_draw T) hr (by decide) (@pa_cons _ _ _ _ _ (pv 1) (@pa_cons _ _ _ _ _ (@pe_int _ _ _ _) (@pa_nil _) star_con) star_name) (by rfl) (by decide) (by rfl) (by rfl))) (@pa_nil _) star_bin) star_name) star_name) (by rfl) (by decide) (by rfl) (by rfl)) (by rfl) (by first | exact .inl rfl | exact .inr rfl | assumption)) (@pss_cons _ _ _ _ _ (@ps_set _ _ 4 _ _ _ _ sc_law.nd rfl (Or.inl rfl) (@pe_fn _ _ _ _ _ _ _ _ _ _ _ _ _ _ T.l_wrapped (ok_l_wrapped T) hr (by decide) (@pa_cons _ _ _ _ _ (pv 1) (@pa_cons _ _ _ _ _ (pv 3) (@pa_cons _ _ _ _ _ (@pe_int _ _ _ _) (@pa_nil _) star_con) star_name) star_name) (by rfl) (by decide) (by rfl) (by rfl)) (by rfl) (by first | exact .inl rfl | exact .inr rfl | assumption)) (@pss_cons _ _ _ _ _ (@ps_set _ _ 5 _ _ _ _ sc_law.nd rfl (Or.inl rfl) (@pe_tup _ _ _ _ _ (@pa_cons _ _ _ _ _ (@pe_str _ _ _ _) (@pa_cons _ _ _ _ _ (pv 4) (@pa_nil _) star_name) star_con)) (by rfl) (by first | exact .inl rfl | exact .inr rfl | assumption)) (@pss_cons _ _ _ _ _ (@ps_if _ _ _ _ _ _ _ _ (@pt_cmpR _ _ _ _ _ _ _ _ op_eq (@pe_fn _ _ _ _ _ _ _ _ _ _ _ _ _ _ T.l_draw (ok_l_draw T) hr (by decide) (@pa_cons _ _ _ _ _ (pv 1) (@pa_cons _ _ _ _ _ (@pe_int _ _ _ _) (@pa_nil _) star_con) star_name) (by rfl) (by decide) (by rfl) (by rfl)) (@pe_int _ _ _ _) (nomark _)) (@pss_one _ _ _ (@ps_set _ _ 5 _ _ _ _ sc_law.nd rfl (Or.inl rfl) (@pe_tup _ _ _ _ _ (@pa_cons _ _ _ _ _ (@pe_str _ _ _ _) (@pa_cons _ _ _ _ _ (@pe_tup _ _ _ _ _ (@pa_cons _ _ _ _ _ (@pe_str _ _ _ _) (@pa_cons _ _ _ _ _ (@pe_ix _ _ _ _ _ _ _ ix_list (pv 2) (@pe_int _ _ _ _) (fun _ _ => rfl)) (@pa_nil _) star_sub) star_con)) (@pa_cons _ _ _ _ _ (pv 4) (@pa_nil _) star_name) star_tup) star_con)) (by rfl) (by first | exact .inl rfl | exact .inr rfl | assumption))) (@pss_nil _)) (@pss_cons _ _ _ _ _ (@ps_for _ _ _ _ _ _ _ _ PassesOwn.never rfl (@pi_tup _ _ _ _ (@pe_tup _ _ _ _ _ (@pa_cons _ _ _ _ _ (pv 3) (@pa_cons _ _ _ _ _ (pv 4) (@pa_nil _) star_name) star_name))) (@pg_name _ _ 6 _ sc_law.nd rfl (Or.inl rfl) (by first | exact .inl rfl | exact .inr rfl | assumption)) (@pss_one _ _ _ (@ps_if _ _ _ _ _ _ _ _ (@pt_cmpR _ _ _ _ _ _ _ _ op_isnot_bl (@pe_fn _ _ _ _ _ _ _ _ _ _ _ _ _ _ T.is_wish (ok_is_wish T) hr (by decide) (@pa_cons _ _ _ _ _ (pv 6) (@pa_nil _) star_name) (by rfl) (by decide) (by rfl) (by rfl)) (@pe_bl _ _ _ _) (nomark _)) (@pss_one _ _ _ (@ps_ret _ _ _ _ (@pe_bl _ _ _ _))) (@pss_nil _))) (by intro _; rfl)) (@pss_cons _ _ _ _ _ (@ps_set _ _ 7 _ _ _ _ sc_law.nd rfl (Or.inl rfl) (pv 3) (by rfl) (by first | exact .inl rfl | exact .inr rfl | assumption)) (@pss_cons _ _ _ _ _ (@ps_for _ _ _ _ _ _ _ _ PassesOwn.never rfl (@pi_range1 _ _ _ _ _ _ rfl T.b_range (@pa_cons _ _ _ _ _ (@pe_int _ _ _ _) (@pa_nil _) star_con) (by rfl)) (@pg_name _ _ 8 _ sc_law.nd rfl (Or.inl rfl) (by first | exact .inl rfl | exact .inr rfl | assumption)) (@pss_one _ _ _ (@ps_set _ _ 7 _ _ _ _ sc_law.nd rfl (Or.inl rfl) (@pe_tup _ _ _ _ _ (@pa_cons _ _ _ _ _ (@pe_str _ _ _ _) (@pa_cons _ _ _ _ _ (pv 7) (@pa_nil _) star_name) star_con)) (by rfl) (by first | exact .inl rfl | exact .inr rfl | assumption))) (by intro _; rfl)) (@pss_cons _ _ _ _ _ (@ps_for _ _ _ _ _ _ _ _ PassesOwn.never rfl (@pi_tup _ _ _ _ (@pe_tup _ _ _ _ _ (@pa_cons _ _ _ _ _ (pv 5) (@pa_cons _ _ _ _ _ (@pe_fn _ _ _ _ _ _ _ _ _ _ _ _ _ _ T.l_spoilt (ok_l_spoilt T) hr (by decide) (@pa_cons _ _ _ _ _ (pv 1) (@pa_cons _ _ _ _ _ (pv 3) (@pa_nil _) star_name) star_name) (by rfl) (by decide) (by rfl) (by rfl)) (@pa_cons _ _ _ _ _ (@pe_fn _ _ _ _ _ _ _ _ _ _ _ _ _ _ T.l_spoilt (ok_l_spoilt T) hr (by decide) (@pa_cons _ _ _ _ _ (pv 1) (@pa_cons _ _ _ _ _ (pv 4) (@pa_nil _) star_name) star_name) (by rfl) (by decide) (by rfl) (by rfl)) (@pa_cons _ _ _ _ _ (@pe_tup _ _ _ _ _ (@pa_nil _)) (@pa_cons _ _ _ _ _ pe_dnewK (@pa_cons _ _ _ _ _ (@pe_lst _ _ _ _ (@pa_nil _)) (@pa_cons _ _ _ _ _ (pv 7) (@pa_nil _) star_name) star_lst) (by rfl)) star_tup) star_call) star_call) star_name))) (@pg_name _ _ 9 _ sc_law.nd rfl (Or.inl rfl) (by first | exact .inl rfl | exact .inr rfl | assumption)) (@pss_one _ _ _ (@ps_if _ _ _ _ _ _ _ _ (@pt_cmpR _ _ _ _ _ _ _ _ op_isnot_bl (@pe_fn _ _ _ _ _ _ _ _ _ _ _ _ _ _ T.is_wish (ok_is_wish T) hr (by decide) (@pa_cons _ _ _ _ _ (pv 9) (@pa_nil _) star_name) (by rfl) (by decide) (by rfl) (by rfl)) (@pe_bl _ _ _ _) (nomark _)) (@pss_one _ _ _ (@ps_ret _ _ _ _ (@pe_bl _ _ _ _))) (@pss_nil _))) (by intro _; rfl)) (@pss_cons _ _ _ _ _ (@ps_set _ _ 10 _ _ _ _ sc_law.nd rfl (Or.inl rfl) (@pe_fn _ _ _ _ _ _ _ _ _ _ _ _ _ _ T.l_numbers_in (ok_l_numbers_in T) hr (by decide) (@pa_cons _ _ _ _ _ (pv 3) (@pa_nil _) star_name) (by rfl) (by decide) (by rfl) (by rfl)) (by rfl) (by first | exact .inl rfl | exact .inr rfl | assumption)) (@pss_cons _ _ _ _ _ (@ps_set _ _ 11 _ _ _ _ sc_law.nd rfl (Or.inl rfl) (@pe_lst _ _ _ _ (@pa_cons _ _ _ _ _ (@pe_fn _ _ _ _ _ _ _ _ _ _ _ _ _ _ T.l_rounds_for (ok_l_rounds_for T) hr (by decide) (@pa_cons _ _ _ _ _ (pv 1) (@pa_cons _ _ _ _ _ (@pe_slice _ _ _ _ _ _ _ _ _ _ sl_list (pv 2) (@po_some _ _ _ (@pe_int _ _ _ _)) (@po_none _)) (@pa_cons _ _ _ _ _ (pv 10) (@pa_nil _) star_name) star_sub) star_name) (by rfl) (by decide) (by rfl) (by rfl)) (@pa_cons _ _ _ _ _ (@pe_fn _ _ _ _ _ _ _ _ _ _ _ _ _ _ T.l_rounds_for (ok_l_rounds_for T) hr (by decide) (@pa_cons _ _ _ _ _ (pv 1) (@pa_cons _ _ _ _ _ (pv 2) (@pa_cons _ _ _ _ _ (pv 10) (@pa_nil _) star_name) star_name) star_name) (by rfl) (by decide) (by rfl) (by rfl)) (@pa_nil _) star_call) star_call)) (by rfl) (by first | exact .inl rfl | exact .inr rfl | assumption)) (@pss_cons _ _ _ _ _ (@ps_for _ _ _ _ _ _ _ _ PassesOwn.never rfl (@pi_range1 _ _ _ _ _ _ rfl T.b_range (@pa_cons _ _ _ _ _ (@pe_int _ _ _ _) (@pa_nil _) star_con) (by rfl)) (@pg_name _ _ 8 _ sc_law.nd rfl (Or.inl rfl) (by first | exact .inl rfl | exact .inr rfl | assumption)) (@pss_cons _ _ _ _ _ (@ps_set _ _ 12 _ _ _ _ sc_law.nd rfl (Or.inl rfl) (@pe_ix _ _ _ _ _ _ _ ix_list (pv 11) (@pe_op _ _ _ _ _ _ _ _ op_modN (pv 8) (@pe_int _ _ _ _)) (fun _ _ => rfl)) (by rfl) (by first | exact .inl rfl | exact .inr rfl | assumption)) (@pss_cons _ _ _ _ _ (@ps_set _ _ 13 _ _ _ _ sc_law.nd rfl (Or.inl rfl) (@pe_ix _ _ _ _ _ _ _ ix_list (@pe_lst _ _ _ _ (@pa_cons _ _ _ _ _ (pv 3) (@pa_cons _ _ _ _ _ (pv 4) (@pa_nil _) star_name) star_name)) (@pe_op _ _ _ _ _ _ _ _ op_modN (@pe_op _ _ _ _ _ _ _ _ op_fdivB (pv 8) (@pe_int _ _ _ _)) (@pe_int _ _ _ _)) (fun _ _ => rfl)) (by rfl) (by first | exact .inl rfl | exact .inr rfl | assumption)) (@pss_cons _ _ _ _ _ (@ps_set _ _ 14 _ _ _ _ sc_law.nd rfl (Or.inl rfl) (@pe_callTy _ _ _ _ _ _ _ _ _ call_dictD (by rfl) T.b_dict L2.boot_dict (@pa_cons _ _ _ _ _ (pv 12) (@pa_nil _) star_name) (by decide) (by decide) (by rfl) (by rfl)) (by rfl) (by first | exact .inl rfl | exact .inr rfl | assumption)) (@pss_cons _ _ _ _ _ (@ps_set _ _ 15 _ _ _ _ sc_law.nd rfl (Or.inl rfl) (@pe_fn _ _ _ _ _ _ _ _ _ _ _ _ _ _ T.holds (ok_holds T) hr (by decide) (@pa_cons _ _ _ _ _ (pv 13) (@pa_cons _ _ _ _ _ (pv 12) (@pa_nil _) star_name) star_name) (by rfl) (by decide) (by rfl) (by rfl)) (by rfl) (by first | exact .inl rfl | exact .inr rfl | assumption)) (@pss_cons _ _ _ _ _ (@ps_if _ _ _ _ _ _ _ _ (PW.pt (@pw_or _ _ _ _ _ _ _ (@pt_not _ _ _ _ (@pt_val _ _ _ (@pe_callB _ _ _ _ _ _ _ _ _ call_isinst (by rfl) T.b_isinstance PyProof.Rows.boot_isinstance (@pa_cons _ _ _ _ _ (pv 15) (@pa_cons _ _ _ _ _ (@pe_ty _ _ _ _ T.b_bool PyProof.Rows.boot_bool (by rfl) (by decide) (by decide)) (@pa_nil _) star_name) star_name) (by decide) (by decide) (by rfl) (by rfl)) (by intro _; rfl))) (@pw_or _ _ _ _ _ _ _ (@pt_cmpR _ _ _ _ _ _ _ _ op_ne (pv 15) (@pe_fn _ _ _ _ _ _ _ _ _ _ _ _ _ _ T.l_holds (ok_l_holds T) hr (by decide) (@pa_cons _ _ _ _ _ (pv 13) (@pa_cons _ _ _ _ _ (pv 14) (@pa_nil _) star_name) star_name) (by rfl) (by decide) (by rfl) (by rfl)) (nomark _)) (@pw_or1 _ _ _ _ (@pt_cmpR _ _ _ _ _ _ _ _ (op_neD (Nat.lt_of_le_of_lt (Nat.le_add_right _ _) hr.units)) (pv 12) (pv 14) (nomark _)))))) (@pss_one _ _ _ (@ps_ret _ _ _ _ (@pe_bl _ _ _ _))) (@pss_nil _)) (@pss_one _ _ _ (ps_dput (hu_of hr) (pv 12) (@pe_ix _ _ _ _ _ _ _ ix_list (pv 2) (@pe_fn _ _ _ _ _ _ _ _ _ _ _ _ _ _ T.l_draw (ok_l_draw T) hr (by decide) (@pa_cons _ _ _ _ _ (pv 1) (@pa_cons _ _ _ _ _ (@pe_int _ _ _ _) (@pa_nil _) star_con) star_name) (by rfl) (by decide) (by rfl) (by rfl)) (fun _ _ => rfl)) (@pe_op _ _ _ _ _ _ _ _ op_sub (@pe_fn _ _ _ _ _ _ _ _ _ _ _ _ _ _ T.l_draw (ok_l_draw T) hr (by decide) (@pa_cons _ _ _ _ _ (pv 1) (@pa_cons _ _ _ _ _ (@pe_int _ _ _ _) (@pa_nil _) star_con) star_name) (by rfl) (by decide) (by rfl) (by rfl)) (@pe_int _ _ _ _)) rfl))))))) (by intro _; rfl)) (@pss_one _ _ _ (@ps_ret _ _ _ _ (@pe_bl _ _ _ _)))))))))))))))), ?_⟩
    refine st_setG (gv_call (R := fun v H' => ∃ hd sc, v = .ref hd ∧ HandAt H' hd sc) (pa_c (pu_v rfl) pa_n) fun Q f => ⟨sa, ns, rfl, hS, fun hd sc H' s n hh => f _ _ ⟨hd, sc, rfl, hh⟩⟩) ?_
    rintro _ H1 ⟨hd, sc, rfl, hh1⟩
    obtain ⟨ys1, hys1⟩ := hh1.ls
    refine st_setG (R := fun v H' => ∃ (l : Addr) (ts : List Str), v = .ref l ∧ l ≠ hd ∧ H' l = some (.lst (ts.map V.str)) ∧ ts.length = 4 ∧ (∀ x ∈ ts, nameOk x = true) ∧ HandAt H' hd sc) (gv_call (pa_c (pu_v rfl) (pa_c pu_c pa_n)) fun Q q => ⟨hd, sc, rfl, hh1, fun l ts H' h0 h1 h2 h3 h4 _ => q _ _ ⟨l, ts, rfl, Ne.symm (ne_of_none hys1 h0), h1, h2, h3, h4⟩⟩) ?_
    rintro _ H2 ⟨nl, ts, rfl, nn, hnl, t4, tn, hh2⟩
    refine st_setG (R := fun v H' => ∃ u : Wi, DAt hd H' v u.d ∧ u.names ∧ u.deep ≤ 6 ∧ HandAt H' hd sc ∧ H' nl = some (.lst (ts.map V.str))) (gv_callA (ga_cons (Pu.gv (v := .ref hd) (pu_v rfl)) fun _ _ e1 => ga_cons (Pu.gv (v := .ref nl) (pu_v rfl)) fun _ _ e2 => ga_cons (R1 := fun v H' => (∃ n : Int, v = .int n ∧ 0 < n ∧ n ≤ 6) ∧ HandAt H' hd sc ∧ SameB hd H2 H') (by obtain ⟨rfl, rfl⟩ := e1; obtain ⟨rfl, rfl⟩ := e2; exact gv_draw1 hh2 (pa_c (pu_v rfl) (pa_c pu_c pa_n)) (by decide) Bd.small) fun _ _ _ => ga_nil) ?_) ?_
    · rintro _ H4 ⟨_, _, _, rfl, ⟨rfl, rfl⟩, _, _, _, rfl, ⟨rfl, rfl⟩, _, _, _, rfl, ⟨⟨m, rfl, m0, m1⟩, hh4, s4⟩, rfl, rfl⟩ Q q
      refine ⟨m.toNat, by omega, hd, sc, nl, ts, ?_, by omega, hh4, nn, s4 _ _ hnl nn, t4, tn, fun v u H' h1 h2 h4 h5 s5 => q _ _ ⟨u, h1, h2, by omega, h5, s5 _ _ (s4 _ _ hnl nn) nn⟩⟩
      rw [show ((m.toNat : Nat) : Int) = m by omega]
      rfl
    rintro v H3 ⟨u, hv3, nu, du, hh3, hnl3⟩
    obtain ⟨ys3, hys3⟩ := hh3.ls
    refine st_setG (R := fun r H' => ∃ u6 : Wi, DAt hd H' r u6.d ∧ u6.names ∧ u6.deep = 6 ∧ HandAt H' hd sc ∧ SameB hd H3 H') (gv_call (pa_c (pu_v rfl) (pa_c (pu_v rfl) (pa_c pu_c pa_n))) fun Q q => ⟨hd, sc, v, u, rfl, hh3, hv3, nu, du, fun v' u' H' a b c d e => q _ _ ⟨u', a, b, c, d, e⟩⟩) ?_
    rintro v6 H4 ⟨u6, hv64, nu6, du6, hh4, s4⟩
    have hv4 := DAt.but hys3 s4 hv3
    have hnl4 := s4 _ _ hnl3 nn
    refine st_setG (gv_tup (pa_c pu_c (pa_c (pu_v rfl) pa_n)) len2) ?_
    rintro _ _ ⟨a7, ha7, rfl, rfl⟩
    have s5 : Same H4 (upd H4 a7 (.tup [.str (Str.ofString "no"), v6])) := Same.upd ha7
    have h7 : DAt hd (upd H4 a7 (.tup [.str (Str.ofString "no"), v6])) (.ref a7) (Wi.no u6).d := .tup upd_same (.cons (.str _ (by decide +kernel)) (.cons (hv64.same s5) .nil))
    revert s5 h7
    generalize upd H4 a7 (.tup [.str (Str.ofString "no"), v6]) = H5
    intro s5 h7
    have hh5 := hh4.same s5
    have hv5 := hv4.same s5
    have hv65 := hv64.same s5
    have hnl5 := s5 _ _ hnl4
    obtain ⟨ys5, hys5⟩ := hh5.ls
    refine st_ifRG (RB := fun _ H' => HandAt H' hd sc ∧ SameB hd H5 H') (fun σ' H' => HandAt H' hd sc ∧ SameB hd H5 H' ∧ ∃ (v7 : V) (u7 : Wi), DAt hd H' v7 u7.d ∧ u7.names ∧ u7.deep = 7 ∧ σ' = [some (.ref sa), some (.ref hd), some (.ref nl), some v, some v6, some v7, none, none, none, none, none, none, none, none, none, none]) (fun Q q => ?_) (fun H6 r D' q _ => ?_) (fun H6 r => ⟨r.1, r.2, .ref a7, .no u6, DAt.but hys5 r.2 h7, nu6, by simp only [Wi.deep]; omega, rfl⟩) ?_
    · refine gv_draw hh5 (pa_c (pu_v rfl) (pa_c pu_c pa_n)) (by decide) Bd.small _ ?_
      rintro _ H6 ⟨⟨m, rfl, _, _⟩, hh6, s6⟩
      exact ⟨rfl, _, rfl, q _ _ ⟨hh6, s6⟩⟩
    · have hv66 := DAt.but hys5 r.2 hv65
      have hnl6 := r.2 _ _ hnl5 nn
      have t0 : 0 < ts.length := by omega
      refine st_setG1 (R := fun v H' => DAt hd H' v (Wi.any (.inn ts[0]) u6).d ∧ Same H6 H') (gv_tupA (RA := fun vs H' => ∃ a, vs = [.str (Str.ofString "any"), .ref a, v6] ∧ H' a = some (.tup [.str (Str.ofString "in"), .str ts[0]]) ∧ Same H6 H') (fun Q q => pu_c (v := .str (Str.ofString "any")) _ (gv_tup (pa_c pu_c (pa_c (pu_ixL (pu_v rfl) pu_c (SqL.of hnl6) (atI_nat (j := 0) (v := .str ts[0]) (by rw [List.getElem?_map, List.getElem?_eq_getElem t0]; rfl))) pa_n)) len2 _ ?_)) ?_) ?_
      · rintro _ _ ⟨a, ha, rfl, rfl⟩
        exact (pu_v rfl : Pu (tVar 4) _ _ v6) _ (q _ _ ⟨a, rfl, upd_same, Same.upd ha⟩)
      · rintro _ H7 ⟨a, rfl, ha, s7⟩
        exact ⟨len3, fun p hp => ⟨.tup upd_same (.cons (.str _ (by decide +kernel)) (.cons (.tup (Same.upd hp _ _ ha) (.cons (.str _ (by decide +kernel)) (.cons (.str _ (nAsc (tn _ (List.getElem_mem t0)))) .nil))) (.cons (hv66.same (s7.trans (Same.upd hp))) .nil))), s7.trans (Same.upd hp)⟩⟩
      · rintro v7 H7 ⟨hv7, s7⟩
        exact q _ _ ⟨r.1.same s7, r.2.trans s7.b, v7, .any (.inn ts[0]) u6, hv7, ⟨tn _ (List.getElem_mem t0), nu6⟩, by simp only [Wi.deep]; omega, rfl⟩
    rintro _ H6 ⟨hh6, s6, v7, u7, hv7, nu7, du7, rfl⟩
    have hv_6 := DAt.but hys5 s6 hv5
    have hv66 := DAt.but hys5 s6 hv65
    have hnl6 := s6 _ _ hnl5 nn
    -- both are wishes
    refine st_tuplG (gv_tup (pa_c (pu_v rfl) (pa_c (pu_v rfl) pa_n)) len2) ?_
    rintro _ _ ⟨ag, hag, rfl, rfl⟩
    have sg : Same H6 (upd H6 ag (.tup [v, v6])) := Same.upd hag
    have hg : (upd H6 ag (.tup [v, v6])) ag = some (.tup [v, v6]) := upd_same
    revert sg hg
    generalize upd H6 ag (.tup [v, v6]) = Hg
    intro sg hg
    refine st_tupl (K := K) (xs := [v, v6]) pu_c (fun i σ H' => Same Hg H' ∧ ∃ z : Option V, σ = [some (.ref sa), some (.ref hd), some (.ref nl), some v, some v6, some v7, z, none, none, none, none, none, none, none, none, none]) ⟨Same.rfl', none, rfl⟩ (fun i σ H' _ ⟨s', _⟩ => SqT.of (s' _ _ hg)) ?_ ?_
    · rintro i y σ H7 hy ⟨s7, z, rfl⟩
      have hy' : ∃ w : Wi, DAt hd H7 y w.d ∧ isW 6 w.d = true := by
        have s67 := sg.trans s7
        match i, hy with
        | 0, hy => cases hy; exact ⟨u, hv_6.same s67, by rw [u.isW_d 6 nu, decide_eq_true du]⟩
        | 1, hy => cases hy; exact ⟨u6, hv66.same s67, by rw [u6.isW_d 6 nu6, decide_eq_true (by omega)]⟩
      obtain ⟨w', hw', good⟩ := hy'
      exact st_ifNG1 (gt_isnB (b := true) (c := true) (R := fun H' => Same H7 H') (gv_call (pa_c (pu_v rfl) pa_n) fun Q q => ⟨hd, y, w'.d, rfl, hw', fun H' s => q _ _ ⟨by rw [good], s⟩⟩)) (fun _ e => by cases e.1) fun H8 e => ⟨s7.trans e.2, _, rfl⟩
    rintro σ H7 ⟨s7, z6, rfl⟩
    have s67 := sg.trans s7
    have hh7 := hh6.same s67
    have hv_7 := hv_6.same s67
    have hv67 := hv66.same s67
    have hv77 := hv7.same s67
    have hnl7 := s67 _ _ hnl6
    refine st_set (pu_v rfl) ?_
    refine st_range (n := 2000) (pa_c pu_c pa_n) (by decide) (by decide) (fun j σ H' => Same H7 H' ∧ ∃ (vf : V) (uf : Wi) (z : Option V), DAt hd H' vf uf.d ∧ uf.names ∧ uf.deep = u.deep + j ∧ σ = [some (.ref sa), some (.ref hd), some (.ref nl), some v, some v6, some v7, z6, some vf, z, none, none, none, none, none, none, none]) ⟨Same.rfl', v, u, none, hv_7, nu, rfl, rfl⟩ ?_ ?_
    · rintro j σ H8 hj ⟨s8, vf, uf, z, hf, nf, df, rfl⟩
      refine st_setG1 (gv_tup (pa_c pu_c (pa_c (pu_v rfl) pa_n)) len2) ?_
      rintro _ _ ⟨a, ha, rfl, rfl⟩
      exact ⟨s8.trans (Same.upd ha), .ref a, .no uf, _, .tup upd_same (.cons (.str _ (by decide +kernel)) (.cons (hf.same (Same.upd ha)) .nil)), nf, by simp only [Wi.deep]; omega, rfl⟩
    rintro σ H8 ⟨s8, vf, uf, z8, hf, nf, df, rfl⟩
    have df' : 7 ≤ uf.deep := by
      have : (2000 : Int).toNat = 2000 := rfl
      omega
    have hh8 := hh7.same s8
    have hv_8 := hv_7.same s8
    have hv68 := hv67.same s8
    have hv78 := hv77.same s8
    have hnl8 := s8 _ _ hnl7
    obtain ⟨ys8, hys8⟩ := hh8.ls
    -- none of these is one
    refine st_tuplG (RL := fun r H' => ∃ a vs ds, r = .ref a ∧ H' a = some (.tup vs) ∧ DsAt hd H' vs ds ∧ (∀ d ∈ ds, isW 6 d = false) ∧ HandAt H' hd sc ∧ SameB hd H8 H') (gv_tupA (RA := fun vs H' => ∃ ds, vs.length = 7 ∧ DsAt hd H' vs ds ∧ (∀ d ∈ ds, isW 6 d = false) ∧ HandAt H' hd sc ∧ SameB hd H8 H') (fun Q q => ?_) ?_) ?_
    · refine (pu_v rfl : Pu (tVar 5) _ _ v7) _ ?_
      refine gv_call (sp := sp_l_spoilt 6) (E := E0) (R := fun r H' => ∃ d, DAt hd H' r d ∧ bad d ∧ HandAt H' hd sc ∧ SameB hd H8 H') (pa_c (pu_v rfl) (pa_c (pu_v rfl) pa_n)) (fun Q q => ⟨hd, sc, v, u, rfl, hh8, hv_8, du, fun r d H' a b c e => q _ _ ⟨d, a, b, c, e⟩⟩) _ ?_
      rintro r1 H9 ⟨d1, b1, b2, hh9, s9⟩
      obtain ⟨ys9, hys9⟩ := hh9.ls
      refine gv_call (sp := sp_l_spoilt 6) (E := E0) (R := fun r H' => ∃ d, DAt hd H' r d ∧ bad d ∧ HandAt H' hd sc ∧ SameB hd H9 H') (pa_c (pu_v rfl) (pa_c (pu_v rfl) pa_n)) (fun Q q => ⟨hd, sc, v6, u6, rfl, hh9, DAt.but hys8 s9 hv68, by omega, fun r d H' a b c e => q _ _ ⟨d, a, b, c, e⟩⟩) _ ?_
      rintro r2 H10 ⟨d2, c1, c2, hh10, s10⟩
      obtain ⟨ys10, hys10⟩ := hh10.ls
      refine (de_tup (hd := hd) (da_n (H0 := H10))) H10 Same.rfl' _ ?_
      rintro t1 H11 ⟨s11, ht1⟩
      refine (de_d (hd := hd) (H0 := H11)) H11 Same.rfl' _ ?_
      rintro t2 H12 ⟨s12, ht2⟩
      refine (de_lst (hd := hd) (o := .lst ys10) (s12 _ _ (s11 _ _ hys10)) (da_n (H0 := H12))) H12 Same.rfl' _ ?_
      rintro t3 H13 ⟨s13, ht3⟩
      have sA := s11.trans (s12.trans s13)
      have sB := s9.trans s10
      refine (pu_v rfl : Pu (tVar 7) _ _ vf) _ (q _ _ ⟨[u7.d, d1, d2, .tup [], .dct, .lst [], uf.d], rfl, .cons ((DAt.but hys8 sB hv78).same sA) (.cons ((DAt.but hys9 s10 b1).same sA) (.cons (c1.same sA) (.cons (ht1.same (s12.trans s13)) (.cons (ht2.same s13) (.cons ht3 (.cons ((DAt.but hys8 sB (hf)).same sA) .nil)))))), ?_, hh10.same sA, sB.trans sA.b⟩)
      intro d hd'
      simp only [List.mem_cons, List.not_mem_nil, or_false] at hd'
      rcases hd' with rfl | rfl | rfl | rfl | rfl | rfl | rfl
      · rw [u7.isW_d 6 nu7, decide_eq_false (by omega)]
      · exact b2 6
      · exact c2 6
      · rfl
      · rfl
      · rfl
      · rw [uf.isW_d 6 nf, decide_eq_false (by omega)]
    · rintro vs H9 ⟨ds, l7, t, b, hh9, s9⟩
      exact ⟨by rw [l7]; decide, fun p hp => ⟨p, vs, ds, rfl, upd_same, t.same (Same.upd hp), b, hh9.same (Same.upd hp), s9.trans (Same.upd hp).b⟩⟩
    rintro _ H9 ⟨ab, vs, ds, rfl, hab, tb, bb, hh9, s9⟩
    have hv_9 := DAt.but hys8 s9 hv_8
    have hv69 := DAt.but hys8 s9 hv68
    have hnl9 := s9 _ _ hnl8 nn
    refine st_tupl (K := K) (xs := vs) pu_c (fun i σ H' => Same H9 H' ∧ ∃ z : Option V, σ = [some (.ref sa), some (.ref hd), some (.ref nl), some v, some v6, some v7, z6, some vf, z8, z, none, none, none, none, none, none]) ⟨Same.rfl', none, rfl⟩ (fun i σ H' _ ⟨s', _⟩ => SqT.of (s' _ _ hab)) ?_ ?_
    · rintro i y σ H10 hy ⟨s10, z, rfl⟩
      obtain ⟨d, hdm, hda⟩ := tb.get hy
      have bd := bb d (List.mem_of_getElem? hdm)
      exact st_ifNG1 (gt_isnB (b := false) (c := false) (R := fun H' => Same H10 H') (gv_call (pa_c (pu_v rfl) pa_n) fun Q q => ⟨hd, y, d, rfl, hda.same s10, fun H' s => q _ _ ⟨by rw [bd], s⟩⟩)) (fun _ e => by cases e.1) fun H11 e => ⟨s10.trans e.2, _, rfl⟩
    rintro σ H10 ⟨s10, z9, rfl⟩
    have hh10 := hh9.same s10
    have hv_10 := hv_9.same s10
    have hv610 := hv69.same s10
    have hnl10 := s10 _ _ hnl9
    obtain ⟨ys10, hys10⟩ := hh10.ls
    refine st_setG (R := fun r H' => ∃ (sl : Addr) (ns : List Int), r = .ref sl ∧ sl ≠ hd ∧ H' sl = some (.lst (ns.map V.int)) ∧ ns.length ≤ 64 ∧ Same H10 H') (gv_call (pa_c (pu_v rfl) pa_n) fun Q q => ⟨hd, v, u, rfl, hv_10, du, by decide, fun l ns H' s h0 h1 h2 => q _ _ ⟨l, ns, rfl, Ne.symm (ne_of_none hys10 h0), h1, h2, s⟩⟩) ?_
    rintro _ H11 ⟨sl, ns', rfl, nsl, hsl, hns, s11⟩
    have hh11 := hh10.same s11
    have hv_11 := hv_10.same s11
    have hv611 := hv610.same s11
    have hnl11 := s11 _ _ hnl10
    obtain ⟨ys11, hys11⟩ := hh11.ls
    refine st_setG (R := fun r H' => ∃ dl d1 d2, r = .ref dl ∧ d1 ≠ d2 ∧ Inv6 H' hd sc nl dl d1 d2 ts v v6 u u6 0) (gv_lstA (RA := fun vs H' => ∃ d1 d2 rs1 rs2, vs = [.ref d1, .ref d2] ∧ d1 ≠ d2 ∧ H' d1 = some (.dK (kvR rs1)) ∧ rs1.length ≤ 4 ∧ (rs1.map (·.1)).Nodup ∧ H' d2 = some (.dK (kvR rs2)) ∧ rs2.length ≤ 4 ∧ (rs2.map (·.1)).Nodup ∧ HandAt H' hd sc ∧ SameB hd H11 H') (fun Q q => ?_) ?_) ?_
    · refine gv_callA (sp := sp_l_rounds_for) (E := E0) (R := fun r H' => ∃ d1 rs1, r = .ref d1 ∧ d1 ≠ hd ∧ H' d1 = some (.dK (kvR rs1)) ∧ rs1.length ≤ 4 ∧ (rs1.map (·.1)).Nodup ∧ HandAt H' hd sc ∧ SameB hd H11 H') (ga_cons (Pu.gv (v := .ref hd) (pu_v rfl)) fun _ _ e1 => ga_cons (R1 := fun r H' => ∃ p, H11 p = none ∧ r = .ref p ∧ H' = upd H11 p (.lst ((ts.map V.str).drop 1))) (by obtain ⟨rfl, rfl⟩ := e1; exact gv_from (k := 1) (pu_v rfl) pu_c (SqL.of hnl11) (by rw [List.length_map]; omega)) fun _ _ e2 => ga_cons (Pu.gv (v := .ref sl) (pu_v rfl)) fun _ _ e3 => ga_nil) ?_ _ ?_
      · rintro _ H12 ⟨_, Ha, _, rfl, ⟨rfl, rfl⟩, _, _, _, rfl, ⟨p, hp, rfl, rfl⟩, _, _, _, rfl, ⟨rfl, rfl⟩, rfl, rfl⟩ Q q
        have np : p ≠ hd := Ne.symm (ne_of_none hys11 hp)
        have sp' : Same Ha (upd Ha p (.lst ((ts.map V.str).drop 1))) := Same.upd hp
        refine ⟨hd, sc, p, sl, ts.drop 1, ns', rfl, hh11.same sp', np, ?_, by rw [List.length_drop]; omega, nsl, sp' _ _ hsl, by omega, fun d rs H' h0 h1 h2 h3 h4 h5 => q _ _ ⟨d, rs, rfl, Ne.symm (ne_of_none (sp' _ _ hys11) h0), h1, h2, h3, h4, sp'.b.trans h5⟩⟩
        rw [upd_same, List.map_drop]
      · rintro _ H12 ⟨d1, rs1, rfl, nd1, hd1, l1, n1, hh12, s12⟩
        obtain ⟨ys12, hys12⟩ := hh12.ls
        refine gv_call (sp := sp_l_rounds_for) (E := E0) (R := fun r H' => ∃ d2 rs2, r = .ref d2 ∧ H12 d2 = none ∧ H' d2 = some (.dK (kvR rs2)) ∧ rs2.length ≤ 4 ∧ (rs2.map (·.1)).Nodup ∧ HandAt H' hd sc ∧ SameB hd H12 H') (pa_c (pu_v rfl) (pa_c (pu_v rfl) (pa_c (pu_v rfl) pa_n))) (fun Q q => ⟨hd, sc, nl, sl, ts, ns', rfl, hh12, nn, s12 _ _ hnl11 nn, by omega, nsl, s12 _ _ hsl nsl, by omega, fun d rs H' h0 h1 h2 h3 h4 h5 => q _ _ ⟨d, rs, rfl, h0, h1, h2, h3, h4, h5⟩⟩) _ ?_
        rintro _ H13 ⟨d2, rs2, rfl, hd20, hd2, l2, n2, hh13, s13⟩
        exact q _ _ ⟨d1, d2, rs1, rs2, rfl, ne_of_none hd1 hd20, s13 _ _ hd1 nd1, l1, n1, hd2, l2, n2, hh13, s12.trans s13⟩
    · rintro _ H12 ⟨d1, d2, rs1, rs2, rfl, n12, hd1, l1, n1, hd2, l2, n2, hh12, s12⟩
      refine ⟨len2, fun p hp => ⟨p, d1, d2, rfl, n12, ?_⟩⟩
      have sp' : Same H12 (upd H12 p (.lst [.ref d1, .ref d2])) := Same.upd hp
      exact ⟨hh12.same sp', sp' _ _ (s12 _ _ hnl11 nn), upd_same, (DAt.but hys11 s12 hv_11).same sp', (DAt.but hys11 s12 hv611).same sp', ⟨rs1, sp' _ _ hd1, by omega, n1⟩, rs2, sp' _ _ hd2, by omega, n2⟩
    rintro _ H12 ⟨dl, d1, d2, rfl, n12, I12⟩
    refine st_range (n := 6) (pa_c pu_c pa_n) (by decide) (by decide) (fun i σ H' => Inv6 H' hd sc nl dl d1 d2 ts v v6 u u6 i ∧ ∃ z a b c e : Option V, σ = [some (.ref sa), some (.ref hd), some (.ref nl), some v, some v6, some v7, z6, some vf, z, z9, some (.ref sl), some (.ref dl), a, b, c, e]) ⟨I12, _, _, _, _, _, rfl⟩ ?_ ?_
    · rintro i σ H13 hi ⟨⟨hh, hnl', hdl, hv, hv6, ⟨rs1, hd1, l1, nd1⟩, rs2, hd2, l2, nd2⟩, z, a, b, c, e, rfl⟩
      have hi6 : i < 6 := by simpa using hi
      -- which dict
      obtain ⟨dd, rs, hat, hdd, hl, hnd, other⟩ : ∃ dd rs, atI [V.ref d1, .ref d2] ((0 + (i : Int)).fmod 2) = some (.ref dd) ∧ H13 dd = some (.dK (kvR rs)) ∧ rs.length ≤ 4 + i ∧ (rs.map (·.1)).Nodup ∧ ∀ (H' : Hp) (rs' : List (Str × Int)), (∀ b o, H13 b = some o → b ≠ dd → b ≠ hd → H' b = some o) → H' dd = some (.dK (kvR rs')) → rs'.length ≤ 4 + (i + 1) → (rs'.map (·.1)).Nodup → (∃ rs, H' d1 = some (.dK (kvR rs)) ∧ rs.length ≤ 4 + (i + 1) ∧ (rs.map (·.1)).Nodup) ∧ ∃ rs, H' d2 = some (.dK (kvR rs)) ∧ rs.length ≤ 4 + (i + 1) ∧ (rs.map (·.1)).Nodup := by
        obtain ⟨ys, hys⟩ := hh.ls
        have m1 : d1 ≠ hd := ne_of hd1 hys (by intro z; cases z)
        have m2 : d2 ≠ hd := ne_of hd2 hys (by intro z; cases z)
        have e2 : (0 + (i : Int)).fmod 2 = (0 + (i : Int)) % 2 := Int.fmod_eq_emod_of_nonneg _ (by decide)
        have : (0 + (i : Int)) % 2 = 0 ∨ (0 + (i : Int)) % 2 = 1 := by omega
        rcases this with h | h
        · exact ⟨d1, rs1, by rw [e2, h]; rfl, hd1, l1, nd1, fun H' rs' kp h1 h2 h3 => ⟨⟨rs', h1, h2, h3⟩, rs2, kp _ _ hd2 n12.symm m2, by omega, nd2⟩⟩
        · exact ⟨d2, rs2, by rw [e2, h]; rfl, hd2, l2, nd2, fun H' rs' kp h1 h2 h3 => ⟨⟨rs1, kp _ _ hd1 n12 m1, by omega, nd1⟩, rs', h1, h2, h3⟩⟩
      refine st_set (pu_ixL (pu_v rfl) (pu_mod (pu_v rfl) pu_c (by decide)) (SqL.of hdl) hat) ?_
      -- which wish
      refine st_setG (R := fun r H' => Same H13 H' ∧ ∃ w : Wi, DAt hd H13 r w.d ∧ w.names ∧ w.deep ≤ 6) (fun Q q => gv_lst (pa_c (pu_v rfl) (pa_c (pu_v rfl) pa_n)) len2 _ ?_) ?_
      · rintro _ _ ⟨p, hp, rfl, rfl⟩
        have hb9 : CDivB (0 + (i : Int)) 2 := ⟨by decide, by unfold Bd; decide +kernel⟩
        obtain ⟨r, w', hr, hw⟩ : ∃ (r : V) (w' : Wi), atI [v, v6] (((0 + (i : Int)).fdiv 2).fmod 2) = some r ∧ DAt hd H13 r w'.d ∧ w'.names ∧ w'.deep ≤ 6 := by
          have e2 : ((0 + (i : Int)).fdiv 2).fmod 2 = ((0 + (i : Int)) / 2) % 2 := by
            rw [Int.fdiv_eq_ediv_of_nonneg _ (by decide), Int.fmod_eq_emod_of_nonneg _ (by decide)]
          have : ((0 + (i : Int)) / 2) % 2 = 0 ∨ ((0 + (i : Int)) / 2) % 2 = 1 := by omega
          rcases this with h | h
          · exact ⟨v, u, by rw [e2, h]; rfl, hv, nu, du⟩
          · exact ⟨v6, u6, by rw [e2, h]; rfl, hv6, nu6, by omega⟩
        exact (pu_mod (pu_fdiv (pu_v rfl) pu_c hb9) pu_c (by decide)) _ ⟨p, _, _, r, rfl, rfl, SqL.of upd_same, hr, q _ _ ⟨Same.upd hp, w', hw⟩⟩
      rintro r H14 ⟨s14, w', hw, nw, dw⟩
      refine st_setG (R := fun x H' => ∃ p, x = .ref p ∧ H14 p = none ∧ H' = upd H14 p (.dK (kvR rs))) (fun Q q => (pa_c (pu_v rfl) pa_n : PuA (tCons (tVar 12) tNil) _ _ [.ref dd]) _ ⟨dd, _, rfl, s14 _ _ hdd, fun p hp => q _ _ ⟨p, rfl, hp, rfl⟩⟩) ?_
      rintro _ _ ⟨p, rfl, hp, rfl⟩
      have s15 : Same H13 (upd H14 p (.dK (kvR rs))) := s14.trans (Same.upd hp)
      have hp15 : (upd H14 p (.dK (kvR rs))) p = some (.dK (kvR rs)) := upd_same
      revert s15 hp15
      generalize upd H14 p (.dK (kvR rs)) = H15
      intro s15 hp15
      refine st_setG (R := fun x H' => x = .bl (ev rs w') ∧ Same H15 H') (gv_call (pa_c (pu_v rfl) (pa_c (pu_v rfl) pa_n)) fun Q q => ⟨hd, r, w', dd, rs, rfl, hw.same s15, nw, dw, s15 _ _ hdd, by omega, fun H' s => q _ _ ⟨rfl, s⟩⟩) ?_
      rintro _ H16 ⟨rfl, s16⟩
      have s136 := s15.trans s16
      refine st_ifNG (R := fun b H' => b = false ∧ Same H16 H') (gt_or (R := fun b H' => b = false ∧ H16 = H') (PuT.gt (pt_n (b := true) (pt_b (pu_isi (pa_c (pu_v rfl) (pa_c pu_c pa_n)) (.bl _) kit_same))) ⟨rfl, rfl⟩) (fun H' e => ?_) (fun _ e => by cases e.1)) (fun _ e => by cases e.1) ?_
      · obtain ⟨_, rfl⟩ := e
        refine gt_or (R := fun b H' => b = false ∧ Same H16 H') ((gt_neBB (b := ev rs w') (c := ev rs w') (R := fun H' => Same H16 H') (pu_v rfl) (gv_call (sp := sp_l_holds 6) (E := E0) (pa_c (pu_v rfl) (pa_c (pu_v rfl) pa_n)) fun Q q => ⟨hd, r, w', p, rs, rfl, hw.same s136, dw, s16 _ _ hp15, by omega, hnd, fun H' s => q _ _ ⟨rfl, s⟩⟩)).imp fun b H' e => ⟨by rw [e.1]; simp, e.2⟩) (fun H' e => ?_) (fun _ e => by cases e.1)
        exact PuT.gt (pt_neD (a := dd) (b := p) (rs := rs) (pu_v rfl) (pu_v rfl) (e.2 _ _ (s136 _ _ hdd)) (e.2 _ _ (s16 _ _ hp15))) ⟨rfl, e.2⟩
      rintro H17 ⟨_, s17⟩
      have s137 := s136.trans s17
      have hh17 := hh.same s137
      obtain ⟨ys17, hys17⟩ := hh17.ls
      have ndd : dd ≠ hd := ne_of (s137 _ _ hdd) hys17 (by intro z; cases z)
      refine st_putR1 (d := dd) (RV := fun x H' => (∃ m : Int, x = .int m) ∧ HandAt H' hd sc ∧ SameB hd H17 H') (RY := fun x H1 y H' => (∃ n : Str, y = .str n) ∧ HandAt H' hd sc ∧ SameB hd H1 H') (fun Q q => ?_) (fun x H18 e => ⟨pu_v rfl, fun Q q => ?_⟩) ?_
      · refine gv_draw hh17 (pa_c (pu_v rfl) (pa_c pu_c pa_n)) (by decide) Bd.small _ ?_
        rintro _ H18 ⟨⟨m, rfl, _, _⟩, hh18, s18⟩
        exact ⟨m, 2, rfl, rfl, q _ _ ⟨⟨_, rfl⟩, hh18, s18⟩⟩
      · have hn18 : H18 nl = some (.lst (ts.map V.str)) := e.2.2 _ _ (s137 _ _ hnl') nn
        refine (pu_v rfl : Pu (tVar 2) _ _ (.ref nl)) _ (gv_draw e.2.1 (pa_c (pu_v rfl) (pa_c pu_c pa_n)) (by decide) Bd.small _ ?_)
        rintro _ H19 ⟨⟨m, rfl, m0, m1⟩, hh19, s19⟩
        have hm : m.toNat < ts.length := by omega
        have hat : atI (ts.map V.str) m = some (.str ts[m.toNat]) := by
          have := atI_nat (xs := ts.map V.str) (j := m.toNat) (v := .str ts[m.toNat]) (by simp [hm])
          rwa [show ((m.toNat : Nat) : Int) = m by omega] at this
        exact ⟨nl, _, m, _, rfl, rfl, SqL.of (s19 _ _ hn18 nn), hat, q _ _ ⟨⟨_, rfl⟩, hh19, s19⟩⟩
      · rintro _ H18 _ H19 ⟨⟨m, rfl⟩, hh18, s18⟩ ⟨⟨n, rfl⟩, hh19, s19⟩
        have sB := s18.trans s19
        have hd19 : H19 dd = some (.dK (kvR rs)) := sB _ _ (s137 _ _ hdd) ndd
        have l' := putR_len n m rs
        have KP : ∀ b o, H13 b = some o → b ≠ dd → b ≠ hd → (upd H19 dd (.dK (kvR (putR rs n m)))) b = some o := fun b o h1 h2 h3 => by
          rw [upd_ne h2]
          exact sB _ _ (s137 _ _ h1) h3
        have TP : ∀ b xs, H19 b = some (.tup xs) → (upd H19 dd (.dK (kvR (putR rs n m)))) b = some (.tup xs) := fun b xs h => upd_tup hd19 (fun _ z => nomatch z) h
        obtain ⟨o1, o2⟩ := other _ (putR rs n m) KP upd_same (by omega) (putR_nd n m hnd)
        exact ⟨rs, n, m, rfl, rfl, hd19, by omega, ⟨hand_updD hh19 hd19, upd_lst hd19 (sB _ _ (s137 _ _ hnl') nn), upd_lst hd19 (sB _ _ (s137 _ _ hdl) (ne_of_lst (s137 _ _ hdl) hh17)), Wi.tups TP u (DAt.but hys17 sB (hv.same s137)), Wi.tups TP u6 (DAt.but hys17 sB (hv6.same s137)), o1, o2⟩, _, _, _, _, _, rfl⟩
    · rintro σ H13 ⟨_, z, a, b, c, e, rfl⟩
      exact st_ret pu_c (k _)
end
theorem all_mk {l : PySem.W.OpenLaw} {w : World} {K : PySem.W.Frag} {h : Heap} {mg : Str → Option Value} {fa : Addr} (X : K.In h) (G : h.Ns mainGlobals mg) (hfa : mg "law" = some (.ref fa))
    {g0 : Addr} (u0 : PySem.W.nsIn K mainGlobals "SHAPES" = some (some (.ref g0)))
    {f0 : Addr} {od0 an0 : Option Addr} {sl0 : Array (Option Value)} {oc0 kV0 dc0 pm0 cd0 ct0 : Value}
    (a0 : PySem.W.nsIn K mainGlobals "is_name" = some (some (.ref f0))) (l0 : K.lookup f0 = some ⟨oc0, od0, .func (PySem.W.fnOf "is_name" "is_name" (defArgs s_is_name) (defBody s_is_name) (defScope s_is_name) .none kV0 dc0 pm0 an0 cd0 ct0), sl0⟩) (c0 : PySem.W.codeIn K cd0 "is_name" = true) (k0 : PySem.W.keepIn K (.ref f0) = true)
    {f1 : Addr} {od1 an1 : Option Addr} {sl1 : Array (Option Value)} {oc1 kV1 dc1 pm1 cd1 ct1 : Value}
    (a1 : PySem.W.nsIn K mainGlobals "is_whole" = some (some (.ref f1))) (l1 : K.lookup f1 = some ⟨oc1, od1, .func (PySem.W.fnOf "is_whole" "is_whole" (defArgs s_is_whole) (defBody s_is_whole) (defScope s_is_whole) .none kV1 dc1 pm1 an1 cd1 ct1), sl1⟩) (c1 : PySem.W.codeIn K cd1 "is_whole" = true) (k1 : PySem.W.keepIn K (.ref f1) = true)
    {f2 : Addr} {od2 an2 : Option Addr} {sl2 : Array (Option Value)} {oc2 kV2 dc2 pm2 cd2 ct2 : Value}
    (a2 : PySem.W.nsIn K mainGlobals "shape_of" = some (some (.ref f2))) (l2 : K.lookup f2 = some ⟨oc2, od2, .func (PySem.W.fnOf "shape_of" "shape_of" (defArgs s_shape_of) (defBody s_shape_of) (defScope s_shape_of) .none kV2 dc2 pm2 an2 cd2 ct2), sl2⟩) (c2 : PySem.W.codeIn K cd2 "shape_of" = true) (k2 : PySem.W.keepIn K (.ref f2) = true)
    {f3 : Addr} {od3 an3 : Option Addr} {sl3 : Array (Option Value)} {oc3 kV3 dc3 pm3 cd3 ct3 : Value}
    (a3 : PySem.W.nsIn K mainGlobals "is_part" = some (some (.ref f3))) (l3 : K.lookup f3 = some ⟨oc3, od3, .func (PySem.W.fnOf "is_part" "is_part" (defArgs s_is_part) (defBody s_is_part) (defScope s_is_part) .none kV3 dc3 pm3 an3 cd3 ct3), sl3⟩) (c3 : PySem.W.codeIn K cd3 "is_part" = true) (k3 : PySem.W.keepIn K (.ref f3) = true)
    {f4 : Addr} {od4 an4 : Option Addr} {sl4 : Array (Option Value)} {oc4 kV4 dc4 pm4 cd4 ct4 : Value}
    (a4 : PySem.W.nsIn K mainGlobals "is_wish_within" = some (some (.ref f4))) (l4 : K.lookup f4 = some ⟨oc4, od4, .func (PySem.W.fnOf "is_wish_within" "is_wish_within" (defArgs s_is_wish_within) (defBody s_is_wish_within) (defScope s_is_wish_within) .none kV4 dc4 pm4 an4 cd4 ct4), sl4⟩) (c4 : PySem.W.codeIn K cd4 "is_wish_within" = true) (k4 : PySem.W.keepIn K (.ref f4) = true)
    {f5 : Addr} {od5 an5 : Option Addr} {sl5 : Array (Option Value)} {oc5 kV5 dc5 pm5 cd5 ct5 : Value}
    (a5 : PySem.W.nsIn K mainGlobals "is_wish" = some (some (.ref f5))) (l5 : K.lookup f5 = some ⟨oc5, od5, .func (PySem.W.fnOf "is_wish" "is_wish" (defArgs s_is_wish) (defBody s_is_wish) (defScope s_is_wish) .none kV5 dc5 pm5 an5 cd5 ct5), sl5⟩) (c5 : PySem.W.codeIn K cd5 "is_wish" = true) (k5 : PySem.W.keepIn K (.ref f5) = true)
    {f6 : Addr} {od6 an6 : Option Addr} {sl6 : Array (Option Value)} {oc6 kV6 dc6 pm6 cd6 ct6 : Value}
    (a6 : PySem.W.nsIn K mainGlobals "check_wish" = some (some (.ref f6))) (l6 : K.lookup f6 = some ⟨oc6, od6, .func (PySem.W.fnOf "check_wish" "check_wish" (defArgs s_check_wish) (defBody s_check_wish) (defScope s_check_wish) .none kV6 dc6 pm6 an6 cd6 ct6), sl6⟩) (c6 : PySem.W.codeIn K cd6 "check_wish" = true) (k6 : PySem.W.keepIn K (.ref f6) = true)
    {f7 : Addr} {od7 an7 : Option Addr} {sl7 : Array (Option Value)} {oc7 kV7 dc7 pm7 cd7 ct7 : Value}
    (a7 : PySem.W.nsIn K mainGlobals "is_met" = some (some (.ref f7))) (l7 : K.lookup f7 = some ⟨oc7, od7, .func (PySem.W.fnOf "is_met" "is_met" (defArgs s_is_met) (defBody s_is_met) (defScope s_is_met) .none kV7 dc7 pm7 an7 cd7 ct7), sl7⟩) (c7 : PySem.W.codeIn K cd7 "is_met" = true) (k7 : PySem.W.keepIn K (.ref f7) = true)
    {f8 : Addr} {od8 an8 : Option Addr} {sl8 : Array (Option Value)} {oc8 kV8 dc8 pm8 cd8 ct8 : Value}
    (a8 : PySem.W.nsIn K mainGlobals "holds" = some (some (.ref f8))) (l8 : K.lookup f8 = some ⟨oc8, od8, .func (PySem.W.fnOf "holds" "holds" (defArgs s_holds) (defBody s_holds) (defScope s_holds) .none kV8 dc8 pm8 an8 cd8 ct8), sl8⟩) (c8 : PySem.W.codeIn K cd8 "holds" = true) (k8 : PySem.W.keepIn K (.ref f8) = true)
    {f9 : Addr} {od9 an9 : Option Addr} {sl9 : Array (Option Value)} {oc9 kV9 dc9 pm9 cd9 ct9 : Value}
    (a9 : PySem.W.nsIn K mainGlobals "_law_hand" = some (some (.ref f9))) (l9 : K.lookup f9 = some ⟨oc9, od9, .func (PySem.W.fnOf "_law_hand" "_law_hand" (defArgs s_l_hand) (defBody s_l_hand) (defScope s_l_hand) .none kV9 dc9 pm9 an9 cd9 ct9), sl9⟩) (c9 : PySem.W.codeIn K cd9 "_law_hand" = true) (k9 : PySem.W.keepIn K (.ref f9) = true)
    {f10 : Addr} {od10 an10 : Option Addr} {sl10 : Array (Option Value)} {oc10 kV10 dc10 pm10 cd10 ct10 : Value}
    (a10 : PySem.W.nsIn K mainGlobals "_law_next" = some (some (.ref f10))) (l10 : K.lookup f10 = some ⟨oc10, od10, .func (PySem.W.fnOf "_law_next" "_law_next" (defArgs s_l_next) (defBody s_l_next) (defScope s_l_next) .none kV10 dc10 pm10 an10 cd10 ct10), sl10⟩) (c10 : PySem.W.codeIn K cd10 "_law_next" = true) (k10 : PySem.W.keepIn K (.ref f10) = true)
    {f11 : Addr} {od11 an11 : Option Addr} {sl11 : Array (Option Value)} {oc11 kV11 dc11 pm11 cd11 ct11 : Value}
    (a11 : PySem.W.nsIn K mainGlobals "_law_take" = some (some (.ref f11))) (l11 : K.lookup f11 = some ⟨oc11, od11, .func (PySem.W.fnOf "_law_take" "_law_take" (defArgs s_l_take) (defBody s_l_take) (defScope s_l_take) .none kV11 dc11 pm11 an11 cd11 ct11), sl11⟩) (c11 : PySem.W.codeIn K cd11 "_law_take" = true) (k11 : PySem.W.keepIn K (.ref f11) = true)
    {f12 : Addr} {od12 an12 : Option Addr} {sl12 : Array (Option Value)} {oc12 kV12 dc12 pm12 cd12 ct12 : Value}
    (a12 : PySem.W.nsIn K mainGlobals "_law_draw" = some (some (.ref f12))) (l12 : K.lookup f12 = some ⟨oc12, od12, .func (PySem.W.fnOf "_law_draw" "_law_draw" (defArgs s_l_draw) (defBody s_l_draw) (defScope s_l_draw) .none kV12 dc12 pm12 an12 cd12 ct12), sl12⟩) (c12 : PySem.W.codeIn K cd12 "_law_draw" = true) (k12 : PySem.W.keepIn K (.ref f12) = true)
    {f13 : Addr} {od13 an13 : Option Addr} {sl13 : Array (Option Value)} {oc13 kV13 dc13 pm13 cd13 ct13 : Value}
    (a13 : PySem.W.nsIn K mainGlobals "_law_name" = some (some (.ref f13))) (l13 : K.lookup f13 = some ⟨oc13, od13, .func (PySem.W.fnOf "_law_name" "_law_name" (defArgs s_l_name) (defBody s_l_name) (defScope s_l_name) .none kV13 dc13 pm13 an13 cd13 ct13), sl13⟩) (c13 : PySem.W.codeIn K cd13 "_law_name" = true) (k13 : PySem.W.keepIn K (.ref f13) = true)
    {f14 : Addr} {od14 an14 : Option Addr} {sl14 : Array (Option Value)} {oc14 kV14 dc14 pm14 cd14 ct14 : Value}
    (a14 : PySem.W.nsIn K mainGlobals "_law_names" = some (some (.ref f14))) (l14 : K.lookup f14 = some ⟨oc14, od14, .func (PySem.W.fnOf "_law_names" "_law_names" (defArgs s_l_names) (defBody s_l_names) (defScope s_l_names) .none kV14 dc14 pm14 an14 cd14 ct14), sl14⟩) (c14 : PySem.W.codeIn K cd14 "_law_names" = true) (k14 : PySem.W.keepIn K (.ref f14) = true)
    {f15 : Addr} {od15 an15 : Option Addr} {sl15 : Array (Option Value)} {oc15 kV15 dc15 pm15 cd15 ct15 : Value}
    (a15 : PySem.W.nsIn K mainGlobals "_law_number" = some (some (.ref f15))) (l15 : K.lookup f15 = some ⟨oc15, od15, .func (PySem.W.fnOf "_law_number" "_law_number" (defArgs s_l_number) (defBody s_l_number) (defScope s_l_number) .none kV15 dc15 pm15 an15 cd15 ct15), sl15⟩) (c15 : PySem.W.codeIn K cd15 "_law_number" = true) (k15 : PySem.W.keepIn K (.ref f15) = true)
    {f16 : Addr} {od16 an16 : Option Addr} {sl16 : Array (Option Value)} {oc16 kV16 dc16 pm16 cd16 ct16 : Value}
    (a16 : PySem.W.nsIn K mainGlobals "_law_wish" = some (some (.ref f16))) (l16 : K.lookup f16 = some ⟨oc16, od16, .func (PySem.W.fnOf "_law_wish" "_law_wish" (defArgs s_l_wish) (defBody s_l_wish) (defScope s_l_wish) .none kV16 dc16 pm16 an16 cd16 ct16), sl16⟩) (c16 : PySem.W.codeIn K cd16 "_law_wish" = true) (k16 : PySem.W.keepIn K (.ref f16) = true)
    {f17 : Addr} {od17 an17 : Option Addr} {sl17 : Array (Option Value)} {oc17 kV17 dc17 pm17 cd17 ct17 : Value}
    (a17 : PySem.W.nsIn K mainGlobals "_law_holds" = some (some (.ref f17))) (l17 : K.lookup f17 = some ⟨oc17, od17, .func (PySem.W.fnOf "_law_holds" "_law_holds" (defArgs s_l_holds) (defBody s_l_holds) (defScope s_l_holds) .none kV17 dc17 pm17 an17 cd17 ct17), sl17⟩) (c17 : PySem.W.codeIn K cd17 "_law_holds" = true) (k17 : PySem.W.keepIn K (.ref f17) = true)
    {f18 : Addr} {od18 an18 : Option Addr} {sl18 : Array (Option Value)} {oc18 kV18 dc18 pm18 cd18 ct18 : Value}
    (a18 : PySem.W.nsIn K mainGlobals "_law_deep" = some (some (.ref f18))) (l18 : K.lookup f18 = some ⟨oc18, od18, .func (PySem.W.fnOf "_law_deep" "_law_deep" (defArgs s_l_deep) (defBody s_l_deep) (defScope s_l_deep) .none kV18 dc18 pm18 an18 cd18 ct18), sl18⟩) (c18 : PySem.W.codeIn K cd18 "_law_deep" = true) (k18 : PySem.W.keepIn K (.ref f18) = true)
    {f19 : Addr} {od19 an19 : Option Addr} {sl19 : Array (Option Value)} {oc19 kV19 dc19 pm19 cd19 ct19 : Value}
    (a19 : PySem.W.nsIn K mainGlobals "_law_wrapped" = some (some (.ref f19))) (l19 : K.lookup f19 = some ⟨oc19, od19, .func (PySem.W.fnOf "_law_wrapped" "_law_wrapped" (defArgs s_l_wrapped) (defBody s_l_wrapped) (defScope s_l_wrapped) .none kV19 dc19 pm19 an19 cd19 ct19), sl19⟩) (c19 : PySem.W.codeIn K cd19 "_law_wrapped" = true) (k19 : PySem.W.keepIn K (.ref f19) = true)
    {f20 : Addr} {od20 an20 : Option Addr} {sl20 : Array (Option Value)} {oc20 kV20 dc20 pm20 cd20 ct20 : Value}
    (a20 : PySem.W.nsIn K mainGlobals "_law_spoilt" = some (some (.ref f20))) (l20 : K.lookup f20 = some ⟨oc20, od20, .func (PySem.W.fnOf "_law_spoilt" "_law_spoilt" (defArgs s_l_spoilt) (defBody s_l_spoilt) (defScope s_l_spoilt) .none kV20 dc20 pm20 an20 cd20 ct20), sl20⟩) (c20 : PySem.W.codeIn K cd20 "_law_spoilt" = true) (k20 : PySem.W.keepIn K (.ref f20) = true)
    {f21 : Addr} {od21 an21 : Option Addr} {sl21 : Array (Option Value)} {oc21 kV21 dc21 pm21 cd21 ct21 : Value}
    (a21 : PySem.W.nsIn K mainGlobals "_law_numbers_in" = some (some (.ref f21))) (l21 : K.lookup f21 = some ⟨oc21, od21, .func (PySem.W.fnOf "_law_numbers_in" "_law_numbers_in" (defArgs s_l_numbers_in) (defBody s_l_numbers_in) (defScope s_l_numbers_in) .none kV21 dc21 pm21 an21 cd21 ct21), sl21⟩) (c21 : PySem.W.codeIn K cd21 "_law_numbers_in" = true) (k21 : PySem.W.keepIn K (.ref f21) = true)
    {f22 : Addr} {od22 an22 : Option Addr} {sl22 : Array (Option Value)} {oc22 kV22 dc22 pm22 cd22 ct22 : Value}
    (a22 : PySem.W.nsIn K mainGlobals "_law_rounds_for" = some (some (.ref f22))) (l22 : K.lookup f22 = some ⟨oc22, od22, .func (PySem.W.fnOf "_law_rounds_for" "_law_rounds_for" (defArgs s_l_rounds_for) (defBody s_l_rounds_for) (defScope s_l_rounds_for) .none kV22 dc22 pm22 an22 cd22 ct22), sl22⟩) (c22 : PySem.W.codeIn K cd22 "_law_rounds_for" = true) (k22 : PySem.W.keepIn K (.ref f22) = true)
    {f23 : Addr} {od23 an23 : Option Addr} {sl23 : Array (Option Value)} {oc23 kV23 dc23 pm23 cd23 ct23 : Value}
    (a23 : PySem.W.nsIn K mainGlobals "law" = some (some (.ref f23))) (l23 : K.lookup f23 = some ⟨oc23, od23, .func (PySem.W.fnOf "law" "law" (defArgs s_law) (defBody s_law) (defScope s_law) .none kV23 dc23 pm23 an23 cd23 ct23), sl23⟩) (c23 : PySem.W.codeIn K cd23 "law" = true) (k23 : PySem.W.keepIn K (.ref f23) = true)
    (z0 : PySem.W.nsIn K mainGlobals "abs" = some none)
    (z1 : PySem.W.nsIn K mainGlobals "all" = some none)
    (z2 : PySem.W.nsIn K mainGlobals "bool" = some none)
    (z3 : PySem.W.nsIn K mainGlobals "dict" = some none)
    (z4 : PySem.W.nsIn K mainGlobals "int" = some none)
    (z5 : PySem.W.nsIn K mainGlobals "isinstance" = some none)
    (z6 : PySem.W.nsIn K mainGlobals "len" = some none)
    (z7 : PySem.W.nsIn K mainGlobals "list" = some none)
    (z8 : PySem.W.nsIn K mainGlobals "max" = some none)
    (z9 : PySem.W.nsIn K mainGlobals "range" = some none)
    (z10 : PySem.W.nsIn K mainGlobals "str" = some none)
    (z11 : PySem.W.nsIn K mainGlobals "tuple" = some none)
    (z12 : PySem.W.nsIn K mainGlobals "zip" = some none)
    {tq0 : Tok} (q0 : PySem.W.nsIn K mainGlobals "MOST_LETTERS" = some (some (.int 8 tq0)))
    {tq1 : Tok} (q1 : PySem.W.nsIn K mainGlobals "LETTERS" = some (some (.str "abcdefghijklmnopqrstuvwxyz" tq1)))
    {tq2 : Tok} (q2 : PySem.W.nsIn K mainGlobals "DEEPEST" = some (some (.int 6 tq2)))
    {t0 : Tok} {ad0 : Addr} {t1 : Tok} {ad1 : Addr} {t2 : Tok} {ad2 : Addr} {t3 : Tok} {ad3 : Addr} {t4 : Tok} {ad4 : Addr} {t5 : Tok} {ad5 : Addr} {o0 : Option Addr} {n0} {s0 : Array (Option Value)} {u0_0 : Tok} {o1 : Option Addr} {n1} {s1 : Array (Option Value)} {u1_0 : Tok} {u1_1 : Tok} {o2 : Option Addr} {n2} {s2 : Array (Option Value)} {u2_0 : Tok} {o3 : Option Addr} {n3} {s3 : Array (Option Value)} {u3_0 : Tok} {o4 : Option Addr} {n4} {s4 : Array (Option Value)} {u4_0 : Tok} {u4_1 : Tok} {o5 : Option Addr} {n5} {s5 : Array (Option Value)} {u5_0 : Tok} {u5_1 : Tok} {epS : _} (wS : (g0 == sysModules) = false) (yS : K.lookup g0 = some ⟨.type "dict", none, .dict #[⟨PyData.keyHash w.params (Str.ofString "in"), .str (Str.ofString "in") t0, .ref ad0⟩, ⟨PyData.keyHash w.params (Str.ofString "round"), .str (Str.ofString "round") t1, .ref ad1⟩, ⟨PyData.keyHash w.params (Str.ofString "least"), .str (Str.ofString "least") t2, .ref ad2⟩, ⟨PyData.keyHash w.params (Str.ofString "no"), .str (Str.ofString "no") t3, .ref ad3⟩, ⟨PyData.keyHash w.params (Str.ofString "both"), .str (Str.ofString "both") t4, .ref ad4⟩, ⟨PyData.keyHash w.params (Str.ofString "any"), .str (Str.ofString "any") t5, .ref ad5⟩] epS, #[]⟩) (y0 : K.lookup ad0 = some ⟨.type "tuple", o0, .seq #[.str (Str.ofString "name") u0_0] n0, s0⟩) (y1 : K.lookup ad1 = some ⟨.type "tuple", o1, .seq #[.str (Str.ofString "name") u1_0, .str (Str.ofString "number") u1_1] n1, s1⟩) (y2 : K.lookup ad2 = some ⟨.type "tuple", o2, .seq #[.str (Str.ofString "number") u2_0] n2, s2⟩) (y3 : K.lookup ad3 = some ⟨.type "tuple", o3, .seq #[.str (Str.ofString "wish") u3_0] n3, s3⟩) (y4 : K.lookup ad4 = some ⟨.type "tuple", o4, .seq #[.str (Str.ofString "wish") u4_0, .str (Str.ofString "wish") u4_1] n4, s4⟩) (y5 : K.lookup ad5 = some ⟨.type "tuple", o5, .seq #[.str (Str.ofString "wish") u5_0, .str (Str.ofString "wish") u5_1] n5, s5⟩)
    : ∃ fd : FuncData, (∀ (s : Shared) (v : Value), BindsTo s fd ⟨[v], []⟩ [("_law_script", v)]) ∧ ∀ base : Heap, K.In base → base.Ns mainGlobals mg → FnOk l.prog w K mg base CX0 22 fa fd ["_law_script"] (sp_law K) := by
  have e := hfa.symm.trans (PySem.W.mg_of X G a23)
  cases e
  have F0 := fun_mk (st := s_is_name) l0 c0 k0
  have b0 := F0.binds (ps := ["thing"]) fun _ _ _ _ _ _ us hl => match us, hl with | [_], _ => rfl
  have F1 := fun_mk (st := s_is_whole) l1 c1 k1
  have b1 := F1.binds (ps := ["thing"]) fun _ _ _ _ _ _ us hl => match us, hl with | [_], _ => rfl
  have F2 := fun_mk (st := s_shape_of) l2 c2 k2
  have b2 := F2.binds (ps := ["word"]) fun _ _ _ _ _ _ us hl => match us, hl with | [_], _ => rfl
  have F3 := fun_mk (st := s_is_part) l3 c3 k3
  have b3 := F3.binds (ps := ["kind", "thing", "depth"]) fun _ _ _ _ _ _ us hl => match us, hl with | [_, _, _], _ => rfl
  have F4 := fun_mk (st := s_is_wish_within) l4 c4 k4
  have b4 := F4.binds (ps := ["thing", "depth"]) fun _ _ _ _ _ _ us hl => match us, hl with | [_, _], _ => rfl
  have F5 := fun_mk (st := s_is_wish) l5 c5 k5
  have b5 := F5.binds (ps := ["thing"]) fun _ _ _ _ _ _ us hl => match us, hl with | [_], _ => rfl
  have F6 := fun_mk (st := s_check_wish) l6 c6 k6
  have b6 := F6.binds (ps := ["thing"]) fun _ _ _ _ _ _ us hl => match us, hl with | [_], _ => rfl
  have F7 := fun_mk (st := s_is_met) l7 c7 k7
  have b7 := F7.binds (ps := ["wish", "rounds"]) fun _ _ _ _ _ _ us hl => match us, hl with | [_, _], _ => rfl
  have F8 := fun_mk (st := s_holds) l8 c8 k8
  have b8 := F8.binds (ps := ["wish", "rounds"]) fun _ _ _ _ _ _ us hl => match us, hl with | [_, _], _ => rfl
  have F9 := fun_mk (st := s_l_hand) l9 c9 k9
  have b9 := F9.binds (ps := ["_law_script"]) fun _ _ _ _ _ _ us hl => match us, hl with | [_], _ => rfl
  have F10 := fun_mk (st := s_l_next) l10 c10 k10
  have b10 := F10.binds (ps := ["_law_hand_here"]) fun _ _ _ _ _ _ us hl => match us, hl with | [_], _ => rfl
  have F11 := fun_mk (st := s_l_take) l11 c11 k11
  have b11 := F11.binds (ps := ["_law_hand_here"]) fun _ _ _ _ _ _ us hl => match us, hl with | [_], _ => rfl
  have F12 := fun_mk (st := s_l_draw) l12 c12 k12
  have b12 := F12.binds (ps := ["_law_hand_here", "_law_many"]) fun _ _ _ _ _ _ us hl => match us, hl with | [_, _], _ => rfl
  have F13 := fun_mk (st := s_l_name) l13 c13 k13
  have b13 := F13.binds (ps := ["_law_hand_here", "_law_taken"]) fun _ _ _ _ _ _ us hl => match us, hl with | [_, _], _ => rfl
  have F14 := fun_mk (st := s_l_names) l14 c14 k14
  have b14 := F14.binds (ps := ["_law_hand_here", "_law_many"]) fun _ _ _ _ _ _ us hl => match us, hl with | [_, _], _ => rfl
  have F15 := fun_mk (st := s_l_number) l15 c15 k15
  have b15 := F15.binds (ps := ["_law_hand_here"]) fun _ _ _ _ _ _ us hl => match us, hl with | [_], _ => rfl
  have F16 := fun_mk (st := s_l_wish) l16 c16 k16
  have b16 := F16.binds (ps := ["_law_hand_here", "_law_names_here", "_law_deep_here"]) fun _ _ _ _ _ _ us hl => match us, hl with | [_, _, _], _ => rfl
  have F17 := fun_mk (st := s_l_holds) l17 c17 k17
  have b17 := F17.binds (ps := ["_law_wish_here", "_law_rounds"]) fun _ _ _ _ _ _ us hl => match us, hl with | [_, _], _ => rfl
  have F18 := fun_mk (st := s_l_deep) l18 c18 k18
  have b18 := F18.binds (ps := ["_law_wish_here"]) fun _ _ _ _ _ _ us hl => match us, hl with | [_], _ => rfl
  have F19 := fun_mk (st := s_l_wrapped) l19 c19 k19
  have b19 := F19.binds (ps := ["_law_hand_here", "_law_wish_here", "_law_deep_here"]) fun _ _ _ _ _ _ us hl => match us, hl with | [_, _, _], _ => rfl
  have F20 := fun_mk (st := s_l_spoilt) l20 c20 k20
  have b20 := F20.binds (ps := ["_law_hand_here", "_law_wish_here"]) fun _ _ _ _ _ _ us hl => match us, hl with | [_, _], _ => rfl
  have F21 := fun_mk (st := s_l_numbers_in) l21 c21 k21
  have b21 := F21.binds (ps := ["_law_wish_here"]) fun _ _ _ _ _ _ us hl => match us, hl with | [_], _ => rfl
  have F22 := fun_mk (st := s_l_rounds_for) l22 c22 k22
  have b22 := F22.binds (ps := ["_law_hand_here", "_law_names_here", "_law_some"]) fun _ _ _ _ _ _ us hl => match us, hl with | [_, _, _], _ => rfl
  have F23 := fun_mk (st := s_law) l23 c23 k23
  have b23 := F23.binds (ps := ["_law_script"]) fun _ _ _ _ _ _ us hl => match us, hl with | [_], _ => rfl
  have T : Txt K mg { f_is_name := f0, d_is_name := _, f_is_whole := f1, d_is_whole := _, f_shape_of := f2, d_shape_of := _, f_is_part := f3, d_is_part := _, f_is_wish_within := f4, d_is_wish_within := _, f_is_wish := f5, d_is_wish := _, f_check_wish := f6, d_check_wish := _, f_is_met := f7, d_is_met := _, f_holds := f8, d_holds := _, f_l_hand := f9, d_l_hand := _, f_l_next := f10, d_l_next := _, f_l_take := f11, d_l_take := _, f_l_draw := f12, d_l_draw := _, f_l_name := f13, d_l_name := _, f_l_names := f14, d_l_names := _, f_l_number := f15, d_l_number := _, f_l_wish := f16, d_l_wish := _, f_l_holds := f17, d_l_holds := _, f_l_deep := f18, d_l_deep := _, f_l_wrapped := f19, d_l_wrapped := _, f_l_spoilt := f20, d_l_spoilt := _, f_l_numbers_in := f21, d_l_numbers_in := _, f_l_rounds_for := f22, d_l_rounds_for := _, f_law := fa, d_law := _, c_SHAPES := g0 } w := { is_name := ⟨F0, b0, PySem.W.mg_of X G a0⟩, is_whole := ⟨F1, b1, PySem.W.mg_of X G a1⟩, shape_of := ⟨F2, b2, PySem.W.mg_of X G a2⟩, is_part := ⟨F3, b3, PySem.W.mg_of X G a3⟩, is_wish_within := ⟨F4, b4, PySem.W.mg_of X G a4⟩, is_wish := ⟨F5, b5, PySem.W.mg_of X G a5⟩, check_wish := ⟨F6, b6, PySem.W.mg_of X G a6⟩, is_met := ⟨F7, b7, PySem.W.mg_of X G a7⟩, holds := ⟨F8, b8, PySem.W.mg_of X G a8⟩, l_hand := ⟨F9, b9, PySem.W.mg_of X G a9⟩, l_next := ⟨F10, b10, PySem.W.mg_of X G a10⟩, l_take := ⟨F11, b11, PySem.W.mg_of X G a11⟩, l_draw := ⟨F12, b12, PySem.W.mg_of X G a12⟩, l_name := ⟨F13, b13, PySem.W.mg_of X G a13⟩, l_names := ⟨F14, b14, PySem.W.mg_of X G a14⟩, l_number := ⟨F15, b15, PySem.W.mg_of X G a15⟩, l_wish := ⟨F16, b16, PySem.W.mg_of X G a16⟩, l_holds := ⟨F17, b17, PySem.W.mg_of X G a17⟩, l_deep := ⟨F18, b18, PySem.W.mg_of X G a18⟩, l_wrapped := ⟨F19, b19, PySem.W.mg_of X G a19⟩, l_spoilt := ⟨F20, b20, PySem.W.mg_of X G a20⟩, l_numbers_in := ⟨F21, b21, PySem.W.mg_of X G a21⟩, l_rounds_for := ⟨F22, b22, PySem.W.mg_of X G a22⟩, law := ⟨F23, b23, PySem.W.mg_of X G a23⟩, b_abs := PySem.W.mg_none_of X G z0, b_all := PySem.W.mg_none_of X G z1, b_bool := PySem.W.mg_none_of X G z2, b_dict := PySem.W.mg_none_of X G z3, b_int := PySem.W.mg_none_of X G z4, b_isinstance := PySem.W.mg_none_of X G z5, b_len := PySem.W.mg_none_of X G z6, b_list := PySem.W.mg_none_of X G z7, b_max := PySem.W.mg_none_of X G z8, b_range := PySem.W.mg_none_of X G z9, b_str := PySem.W.mg_none_of X G z10, b_tuple := PySem.W.mg_none_of X G z11, b_zip := PySem.W.mg_none_of X G z12, k_MOST_LETTERS := ⟨tq0, PySem.W.mg_of X G q0⟩, k_LETTERS := ⟨tq1, PySem.W.mg_of X G q1⟩, k_DEEPEST := ⟨tq2, PySem.W.mg_of X G q2⟩, m_SHAPES := PySem.W.mg_of X G u0, shapes := sh_mk wS yS y0 y1 y2 y3 y4 y5 }
  exact ⟨PySem.W.fnOf "law" "law" (defArgs s_law) (defBody s_law) (defScope s_law) .none kV23 dc23 pm23 an23 cd23 ct23, fun s v => .of_eq rfl, fun base _ _ => ok_law T⟩
theorem walk {l : PySem.W.OpenLaw} {q : Program} {loose : List Str} {XP : (Str → Option Value) → Heap → Prop} {YP : World → Heap → Prop} {d : DefRec} {K : Params → PySem.W.Frag} (hn : l.most = some 63) (hdf : d.params.defaults = [])
    (hY : ∀ (w : World) (h : Heap), YP w h → (K w.params).In h)
    (F : ∀ (w : World) (mg : Str → Option Value) (fa : Addr) (h : Heap), (K w.params).In h → h.Ns mainGlobals mg → mg d.name = some (.ref fa) →
      ∃ fd : FuncData, (∀ (s : Shared) (u : Value), BindsTo s fd ⟨[u], []⟩ [("_law_script", u)]) ∧ ∀ base : Heap, (K w.params).In base → base.Ns mainGlobals mg → FnOk l.prog w (K w.params) mg base CX0 22 fa fd ["_law_script"] (sp_law (K w.params))) :
    PySem.W.WalkO q loose XP YP l.row.toRowW d [] (fun f vs => PySem.call f vs) :=
  L2.walk_of (n := 63) (k := 22) (x := "_law_script") (CX := fun _ => CX0) (sp := fun w => sp_law (K w.params)) hn (by decide) hdf ⟨rfl, by decide, by decide⟩ hY F (fun _ _ a ns hl _ hS => ⟨a, ns, rfl, hS, hl, fun _ => rfl⟩) fun _ _ _ _ _ z => z
end My
def PySem.W.Fast.tw6234890024676855555 : Nat := 0
def PySem.W.Fast.tw18379618815851272875 : Nat := 0
def PySem.W.Fast.tw17877157156497659444 : Nat := 0
def PySem.W.Fast.tw17538665989471194238 : Nat := 0
def PySem.W.Fast.tw11833526537122848689 : Nat := 0
def PySem.W.Fast.tw10183970559040434551 : Nat := 0
def PySem.W.Fast.tw3170586619783936142 : Nat := 0
def PySem.W.Fast.tw15948019709693789687 : Nat := 0
def PySem.W.Fast.tw17884364659756083399 : Nat := 0
def PySem.W.Fast.tw16613027375370548037 : Nat := 0
def PySem.W.Fast.tw4562024372349763559 : Nat := 0
def PySem.W.Fast.tw6185786434646153630 : Nat := 0
open PySem PySem.W PyProof.Rows
set_option maxRecDepth 100000 in
set_option maxHeartbeats 0 in
theorem PySem.Challenge.cw_plymap_k71_what_is_a_wish_holds : PySem.Challenge.rw_plymap_k71_what_is_a_wish.Holds := by
  w_on; o_law; k_head; (case hw => w_witness2)
  k_fill
  refine My.walk (l := PySem.Challenge.rw_plymap_k71_what_is_a_wish) rfl rfl (fun w h Y => PySem.W.kIn_of Y) ?F
  case F =>
    intro w mg fa h KX G hmg
    refine' My.all_mk KX G hmg ?u0 ?a0 ?l0 ?c0 ?k0 ?a1 ?l1 ?c1 ?k1 ?a2 ?l2 ?c2 ?k2 ?a3 ?l3 ?c3 ?k3 ?a4 ?l4 ?c4 ?k4 ?a5 ?l5 ?c5 ?k5 ?a6 ?l6 ?c6 ?k6 ?a7 ?l7 ?c7 ?k7 ?a8 ?l8 ?c8 ?k8 ?a9 ?l9 ?c9 ?k9 ?a10 ?l10 ?c10 ?k10 ?a11 ?l11 ?c11 ?k11 ?a12 ?l12 ?c12 ?k12 ?a13 ?l13 ?c13 ?k13 ?a14 ?l14 ?c14 ?k14 ?a15 ?l15 ?c15 ?k15 ?a16 ?l16 ?c16 ?k16 ?a17 ?l17 ?c17 ?k17 ?a18 ?l18 ?c18 ?k18 ?a19 ?l19 ?c19 ?k19 ?a20 ?l20 ?c20 ?k20 ?a21 ?l21 ?c21 ?k21 ?a22 ?l22 ?c22 ?k22 ?a23 ?l23 ?c23 ?k23 ?z0 ?z1 ?z2 ?z3 ?z4 ?z5 ?z6 ?z7 ?z8 ?z9 ?z10 ?z11 ?z12 ?q0 ?q1 ?q2 ?wS ?yS ?y0 ?y1 ?y2 ?y3 ?y4 ?y5
    (case u0 => k_is)
    (case a0 => k_is)
    (case l0 => k_is)
    (case c0 => k_is)
    (case k0 => k_is)
    (case a1 => k_is)
    (case l1 => k_is)
    (case c1 => k_is)
    (case k1 => k_is)
    (case a2 => k_is)
    (case l2 => k_is)
    (case c2 => k_is)
    (case k2 => k_is)
    (case a3 => k_is)
    (case l3 => k_is)
    (case c3 => k_is)
    (case k3 => k_is)
    (case a4 => k_is)
    (case l4 => k_is)
    (case c4 => k_is)
    (case k4 => k_is)
    (case a5 => k_is)
    (case l5 => k_is)
    (case c5 => k_is)
    (case k5 => k_is)
    (case a6 => k_is)
    (case l6 => k_is)
    (case c6 => k_is)
    (case k6 => k_is)
    (case a7 => k_is)
    (case l7 => k_is)
    (case c7 => k_is)
    (case k7 => k_is)
    (case a8 => k_is)
    (case l8 => k_is)
    (case c8 => k_is)
    (case k8 => k_is)
    (case a9 => k_is)
    (case l9 => k_is)
    (case c9 => k_is)
    (case k9 => k_is)
    (case a10 => k_is)
    (case l10 => k_is)
    (case c10 => k_is)
    (case k10 => k_is)
    (case a11 => k_is)
    (case l11 => k_is)
    (case c11 => k_is)
    (case k11 => k_is)
    (case a12 => k_is)
    (case l12 => k_is)
    (case c12 => k_is)
    (case k12 => k_is)
    (case a13 => k_is)
    (case l13 => k_is)
    (case c13 => k_is)
    (case k13 => k_is)
    (case a14 => k_is)
    (case l14 => k_is)
    (case c14 => k_is)
    (case k14 => k_is)
    (case a15 => k_is)
    (case l15 => k_is)
    (case c15 => k_is)
    (case k15 => k_is)
    (case a16 => k_is)
    (case l16 => k_is)
    (case c16 => k_is)
    (case k16 => k_is)
    (case a17 => k_is)
    (case l17 => k_is)
    (case c17 => k_is)
    (case k17 => k_is)
    (case a18 => k_is)
    (case l18 => k_is)
    (case c18 => k_is)
    (case k18 => k_is)
    (case a19 => k_is)
    (case l19 => k_is)
    (case c19 => k_is)
    (case k19 => k_is)
    (case a20 => k_is)
    (case l20 => k_is)
    (case c20 => k_is)
    (case k20 => k_is)
    (case a21 => k_is)
    (case l21 => k_is)
    (case c21 => k_is)
    (case k21 => k_is)
    (case a22 => k_is)
    (case l22 => k_is)
    (case c22 => k_is)
    (case k22 => k_is)
    (case a23 => k_is)
    (case l23 => k_is)
    (case c23 => k_is)
    (case k23 => k_is)
    (case z0 => k_is)
    (case z1 => k_is)
    (case z2 => k_is)
    (case z3 => k_is)
    (case z4 => k_is)
    (case z5 => k_is)
    (case z6 => k_is)
    (case z7 => k_is)
    (case z8 => k_is)
    (case z9 => k_is)
    (case z10 => k_is)
    (case z11 => k_is)
    (case z12 => k_is)
    (case q0 => k_is)
    (case q1 => k_is)
    (case q2 => k_is)
    (case wS => kernel_rfl)
    (case yS => k_is)
    (case y0 => k_is)
    (case y1 => k_is)
    (case y2 => k_is)
    (case y3 => k_is)
    (case y4 => k_is)
    (case y5 => k_is)
