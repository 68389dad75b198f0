import PyProof.Rows.All
import Wide.All
import OpenK.AllK
import Wide.FinOn
import Lean
import PyProof.EqAt
import PyProof.EqKinds
import PyProof.TupleCall
import PyProof.ZipIter
import PyProof.TupleIter
import PyProof.AttrMiss
import PyProof.TupleKey
import PyProof.DictFindH
import KE.KDictOf
import PyProof.DictIter
import PyProof.DictWalks
import PyProof.ListRange
import KE.KDictList
import PyProof.CompUse
import KE.KTryMore
import PyProof.WalkInts
import KE.KIntText
import PyProof.StrLawsTight
import PyProof.Rows.StrIntSpec
import KE.KxMul
import KE.KEqDict
import PyProof.DictValues
import PyProof.StrLawsChain
import KE.KSortTup
import KE.KLam
import KE.KNestM
import PySem.Challenge.RW_plymap_k83_a_thread
set_option Elab.async false
set_option linter.all false
set_option maxRecDepth 100000
/-! THE HAND LAYER, for ints, bools, texts, own classes, LISTS and tuples (index, slices, in, append, pop ..), calls, loops. Paste it whole ahead of your own text; what your proof does not reach may be deleted. -/
namespace L2
open PySem PySem.Spec PyProof.Rows

/-- a key: an int or a str -/
abbrev Key := Sum Int Str
def keyIs : Key → Value → Bool
  | .inl k, v => Value.isInt k v
  | .inr x, v => Value.isStrOf x v
def keyH (w : World) : Key → Int
  | .inl k => hashInt k
  | .inr x => hashStr w x
theorem keyIs_shape : ∀ {k : Key} {v : Value}, keyIs k v = true → (∃ i t, k = Sum.inl i ∧ v = Value.int i t) ∨ (∃ x t, k = Sum.inr x ∧ v = Value.str x t)
  | .inl i, v, h => by
    obtain ⟨t, e⟩ := Value.isInt_shape (k := i) (v := v) h
    exact .inl ⟨i, t, rfl, e⟩
  | .inr x, v, h => by
    obtain ⟨t, e⟩ := Value.isStrOf_shape (x := x) (v := v) h
    exact .inr ⟨x, t, rfl, e⟩
theorem keyIs_int (i : Int) (t : Tok) : keyIs (.inl i) (.int i t) = true := by simp [keyIs, Value.isInt]
theorem keyIs_str (x : Str) (t : Tok) : keyIs (.inr x) (.str x t) = true := by simp [keyIs, Value.isStrOf]
theorem key_ll (a b : Int) : decide ((Sum.inl a : Key) = Sum.inl b) = (a == b) := by
  by_cases e : a = b
  · subst e; simp
  · have h : ¬ (Sum.inl a : Key) = Sum.inl b := fun q => e (Sum.inl.inj q)
    rw [decide_eq_false h]
    exact (beq_eq_false_iff_ne.mpr e).symm
theorem key_rr (a b : Str) : decide ((Sum.inr a : Key) = Sum.inr b) = decide (a = b) := by
  by_cases e : a = b
  · subst e; simp
  · have h : ¬ (Sum.inr a : Key) = Sum.inr b := fun q => e (Sum.inr.inj q)
    rw [decide_eq_false h, decide_eq_false e]
theorem key_lr (a : Int) (b : Str) : decide ((Sum.inl a : Key) = Sum.inr b) = false := decide_eq_false (fun q => nomatch q)
theorem key_rl (a : Str) (b : Int) : decide ((Sum.inr a : Key) = Sum.inl b) = false := decide_eq_false (fun q => nomatch q)

def mixKind (prog : Program) (w : World) : PySem.KeyKind prog w Key where
  is := keyIs
  hash := keyH w
  inj := fun v a b ha hb => by
    rcases keyIs_shape ha with ⟨i, t, rfl, rfl⟩ | ⟨x, t, rfl, rfl⟩
    · rcases keyIs_shape hb with ⟨j, u, rfl, e⟩ | ⟨y, u, rfl, e⟩
      · injection e with e1 _; rw [e1]
      · exact nomatch e
    · rcases keyIs_shape hb with ⟨j, u, rfl, e⟩ | ⟨y, u, rfl, e⟩
      · exact nomatch e
      · injection e with e1 _; rw [e1]
  byValue := fun k v h => by
    rcases keyIs_shape h with ⟨i, t, rfl, rfl⟩ | ⟨x, t, rfl, rfl⟩ <;> rfl
  pyHash := fun hv h => by
    rcases keyIs_shape hv with ⟨i, t, rfl, rfl⟩ | ⟨x, t, rfl, rfl⟩
    · exact wpAny_pyHash_int h
    · exact wpAny_pyHash_str h
  eqBool := fun hu hv h => by
    rcases keyIs_shape hu with ⟨i, t, rfl, rfl⟩ | ⟨x, t, rfl, rfl⟩
    · rcases keyIs_shape hv with ⟨j, u, rfl, rfl⟩ | ⟨y, u, rfl, rfl⟩
      · rw [key_ll] at h; exact wpAny_eqBool_int h
      · rw [key_lr] at h; exact SeqAt.EqAt.int_str i t y u _ _ _ _ h
    · rcases keyIs_shape hv with ⟨j, u, rfl, rfl⟩ | ⟨y, u, rfl, rfl⟩
      · rw [key_rl] at h; exact SeqAt.EqAt.str_int x t j u _ _ _ _ h
      · rw [key_rr] at h; exact wpAny_eqBool_str h
  «strs» := fun k x t v h => by
    rcases keyIs_shape h with ⟨i, u, rfl, e⟩ | ⟨y, u, rfl, e⟩
    · exact nomatch e
    · injection e with e1 _
      subst e1
      cases v <;> rfl

theorem mixKind_int (prog : Program) (w : World) (i : Int) (t : Tok) : (mixKind prog w).is (.inl i) (.int i t) = true := keyIs_int i t
theorem mixKind_str (prog : Program) (w : World) (x : Str) (t : Tok) : (mixKind prog w).is (.inr x) (.str x t) = true := keyIs_str x t
end L2

namespace L2
open PySem PySem.Spec PyProof.Rows

/-- a value, without the heap -/
inductive V where
  | non | bl (b : Bool) | int (i : Int) | str (x : Str) | byt (b : Array UInt8) | flt (b : UInt64) | ref (a : Addr) | ty (n : String)
  deriving DecidableEq

def RelV : V → Value → Prop
  | .non, u => u = Value.none
  | .bl b, u => u = Value.bool b
  | .int i, u => ∃ t, u = Value.int i t
  | .str x, u => ∃ t, u = Value.str x t
  | .byt b, u => ∃ t, u = Value.bytes b t
  | .flt b, u => ∃ t, u = Value.float b t
  | .ref a, u => u = Value.ref a
  | .ty n, u => u = Value.type n

abbrev Vals : List V → List Value → Prop := Paired RelV
theorem Vals.length {xs : List V} {us : List Value} (r : Vals xs us) : xs.length = us.length := Paired.length r
theorem Vals.get : ∀ {xs : List V} {us : List Value} {i : Nat} {x : V}, Vals xs us → xs[i]? = some x → ∃ u, us[i]? = some u ∧ RelV x u
  | _, _, _, _, .nil, e => by simp at e
  | _, _, 0, _, .cons r _, e => by simp at e; subst e; exact ⟨_, rfl, r⟩
  | _, _, i + 1, x, .cons _ t, e => by
    obtain ⟨u, h1, h2⟩ := Vals.get (i := i) (x := x) t (by simpa using e)
    exact ⟨u, by simpa using h1, h2⟩
theorem Vals.set {x : V} {u : Value} (r : RelV x u) : ∀ {xs : List V} {us : List Value} (i : Nat), Vals xs us → Vals (xs.set i x) (us.set i u)
  | _, _, _, .nil => .nil
  | _, _, 0, .cons _ t => .cons r t
  | _, _, i + 1, .cons q t => .cons q (Vals.set r i t)
theorem Vals.append : ∀ {xs ys : List V} {us ws : List Value}, Vals xs us → Vals ys ws → Vals (xs ++ ys) (us ++ ws)
  | _, _, _, _, .nil, s => s
  | _, _, _, _, .cons r t, s => .cons r (Vals.append t s)
theorem Vals.take : ∀ {xs : List V} {us : List Value} (n : Nat), Vals xs us → Vals (xs.take n) (us.take n)
  | _, _, 0, _ => .nil
  | _, _, _ + 1, .nil => .nil
  | _, _, n + 1, .cons r t => .cons r (Vals.take n t)
theorem Vals.drop : ∀ {xs : List V} {us : List Value} (n : Nat), Vals xs us → Vals (xs.drop n) (us.drop n)
  | _, _, 0, r => r
  | _, _, _ + 1, .nil => .nil
  | _, _, n + 1, .cons _ t => Vals.drop n t
theorem Vals.none_of : ∀ {xs : List V} {us : List Value} {i : Nat}, Vals xs us → xs[i]? = none → us[i]? = none := fun {xs us i} r e => by
  have h1 := r.length
  have h2 : xs.length ≤ i := List.getElem?_eq_none_iff.mp e
  exact List.getElem?_eq_none_iff.mpr (by omega)

def RelO : Option V → Option Value → Prop
  | some v, some u => RelV v u
  | none, none => True
  | _, _ => False
def KV {κ : Type} : List (κ × V) → List (κ × Value) → Prop := Paired fun (p : κ × V) (q : κ × Value) => p.1 = q.1 ∧ RelV p.2 q.2

/-- a key of a dict (00_mix): an int or a text -/
def kV : Key → V
  | .inl i => .int i
  | .inr x => .str x

/-- what stands at a tracked address -/
inductive HO where
  /-- a list -/
  | lst (xs : List V)
  /-- a tuple (never changes) -/
  | tup (xs : List V)
  /-- a dict whose keys are ints and texts; one whose keys are tuples of ints and texts (the empty one is both) -/
  | dK (kvs : List (Key × V)) | dT (kvs : List (List Key × V))
  /-- a set of ints: its members, its size -/
  | set (S : Int → Bool) (n : Nat)
  /-- an instance of the class at C, its dict at dx, its attributes -/
  | ins (C dx : Addr) (fs : List (Str × V))
  /-- the dict of the instance at x -/
  | own (x : Addr)
  /-- the dict of an exception -/
  | xd (fs : List (Str × V))
  /-- a bound method, f of x -/
  | met (f x : Addr)
  /-- a range object lo, lo + 1, .. below hi -/
  | rng (lo hi : Int)
  /-- a thing that is known to the object (the script; a dict while a loop walks it): read, never written while it is so -/
  | frz (o : Obj) (u : HO)
  /-- a code object's table -/
  | tbl (ps : Array Value)
  /-- any other thing, by what is true of its one object (a def of one's own: SetO a S n := HO.ext fun h => ..) -/
  | ext (φ : Heap → Prop)

abbrev Hp := Addr → Option HO
def upd (H : Hp) (a : Addr) (o : HO) : Hp := fun b => if b = a then some o else H b
theorem upd_same {H : Hp} {a : Addr} {o : HO} : upd H a o a = some o := by unfold upd; rw [if_pos rfl]
theorem upd_ne {H : Hp} {a b : Addr} {o : HO} (h : b ≠ a) : upd H a o b = H b := by unfold upd; rw [if_neg h]
theorem upd_upd {H : Hp} {a : Addr} {o u : HO} : upd (upd H a o) a u = upd H a u := by
  funext b; unfold upd; split <;> rfl
/-- two objects of different content stand apart -/
theorem ne_of {H : Hp} {a b : Addr} {o u : HO} (h : H a = some o) (h' : H b = some u) (d : o ≠ u) : a ≠ b := by
  intro e; subst e; rw [h] at h'; exact d (Option.some.inj h')
theorem ne_of_none {H : Hp} {a b : Addr} {o : HO} (h : H a = some o) (h' : H b = none) : a ≠ b := by
  intro e; subst e; rw [h] at h'; cases h'

section
variable (P : Program) (w : World)
def ObjOk (H : Hp) (h : Heap) (a : Addr) : HO → Prop
  | .lst xs => xs.length ≤ sizeLine ∧ ∃ (its : List Value) (n : Nat), Vals xs its ∧ h.get? a = some { cls := .type "list", data := .seq its.toArray n }
  | .tup xs => xs.length ≤ sizeLine ∧ ∃ its : List Value, Vals xs its ∧ IsTup h a its.toArray
  | .dK kvs => kvs.length ≤ sizeLine ∧ (a == sysModules) = false ∧ ∃ vs, KV kvs vs ∧ h.DictOf (mixKind P w) a vs
  | .dT kvs => kvs.length ≤ sizeLine ∧ (a == sysModules) = false ∧ ∃ xs : List (List Key × Addr × Value),
      Paired (fun (p : List Key × V) (q : List Key × Addr × Value) => p.1 = q.1 ∧ H q.2.1 = some (.tup (p.1.map kV)) ∧ RelV p.2 q.2.2) kvs xs ∧
      ∃ o es ep, h.get? a = some o ∧ o.ExactDict ∧ o.data = .dict es ep ∧ es.toList = xs.map (entryOfKey (tupleKind (mixKind P w))) ∧ (xs.map (·.1)).Nodup
  | .set S n => h.SetOf (intKind P w) a S n
  | .ins C dx fs => H dx = some (.own a) ∧ fs.length ≤ 1000 ∧ dx ≠ a ∧ h.get? a = some (PySem.W.instObj C dx) ∧
      ∃ mA, h.Ns1 dx mA ∧ (∀ f, RelO (fs.lookup f) (mA f)) ∧ PySem.Within mA (fs.map (·.1))
  | .own _ => ∃ o, h.get? a = some o
  | .xd fs => ∃ mA, h.Ns1 a mA ∧ ∀ f, RelO (fs.lookup f) (mA f)
  | .rng lo hi => ∃ t u v, h.get? a = some { cls := .type "range", data := .fields #[.int lo t, .int hi u, .int 1 v] }
  | .frz o u => h.get? a = some o ∧ ObjOk H h a u
  | .tbl ps => h.get? a = some { cls := .none, data := .fields ps }
  | .met f x => h.get? a = some (PySem.W.methodObj (.ref f) (.ref x))
  | .ext φ => φ h ∧ (∃ o, h.get? a = some o) ∧ ∀ h1 h2 : Heap, φ h1 → (∀ o, h1.get? a = some o → h2.get? a = some o) → φ h2
/-- the abstract heap is held -/
def HOk (H : Hp) (h : Heap) : Prop := ∀ a o, H a = some o → ObjOk P w H h a o
end

section
variable {P : Program} {w : World} {H H' : Hp} {h h' : Heap} {a : Addr} {o : HO}
theorem ObjOk.lt (x : ObjOk P w H h a o) : a < h.objs.size := by
  cases o with
  | lst xs => obtain ⟨_, _, _, _, e⟩ := x; exact Heap.lt_size e
  | tup xs => obtain ⟨_, _, _, p⟩ := x; exact p.lt
  | dK kvs => obtain ⟨_, _, _, _, o, _, _, e, _⟩ := x; exact Heap.lt_size e
  | dT kvs => obtain ⟨_, _, _, _, o, _, _, e, _⟩ := x; exact Heap.lt_size e
  | set S n => obtain ⟨o, _, _, _, e, _⟩ := x; exact Heap.lt_size e
  | ins C dx fs => obtain ⟨_, _, _, e, _⟩ := x; exact Heap.lt_size e
  | own y => obtain ⟨_, e⟩ := x; exact Heap.lt_size e
  | xd fs => obtain ⟨_, ⟨_, _, _, e, _⟩, _⟩ := x; exact Heap.lt_size e
  | rng lo hi => obtain ⟨_, _, _, e⟩ := x; exact Heap.lt_size e
  | frz ob u => obtain ⟨e, _⟩ := x; exact Heap.lt_size e
  | tbl ps => exact Heap.lt_size (show h.get? a = some _ from x)
  | met f y => exact Heap.lt_size (show h.get? a = some _ from x)
  | ext φ => obtain ⟨_, ⟨_, e⟩, _⟩ := x; exact Heap.lt_size e
theorem Paired.mapP {α β : Type} {F G : α → β → Prop} : ∀ {l₁ : List α} {l₂ : List β}, Paired F l₁ l₂ → (∀ a b, F a b → G a b) → Paired G l₁ l₂
  | _, _, .nil, _ => .nil
  | _, _, .cons r t, f => .cons (f _ _ r) (Paired.mapP t f)
/-- what an object's description leans on: its own object, its own dict, the tuples -/
theorem ObjOk.stay (x : ObjOk P w H h a o) (k : ∀ b u, (b = a ∨ H b = some (.own a)) → h.get? b = some u → h'.get? b = some u)
    (ho : ∀ b, H b = some (.own a) → H' b = some (.own a)) (ht : ∀ b xs, H b = some (.tup xs) → H' b = some (.tup xs)) : ObjOk P w H' h' a o := by
  induction o with
  | lst xs => obtain ⟨z, its, n, r, e⟩ := x; exact ⟨z, its, n, r, k _ _ (.inl rfl) e⟩
  | tup xs => obtain ⟨z, its, r, ob, e, c⟩ := x; exact ⟨z, its, r, ob, k _ _ (.inl rfl) e, c⟩
  | dK kvs => obtain ⟨z, y, vs, r, ob, es, ep, e, c⟩ := x; exact ⟨z, y, vs, r, ob, es, ep, k _ _ (.inl rfl) e, c⟩
  | dT kvs =>
    obtain ⟨z, y, xs, r, ob, es, ep, e, c⟩ := x
    exact ⟨z, y, xs, Paired.mapP r fun p q z => ⟨z.1, ht _ _ z.2.1, z.2.2⟩, ob, es, ep, k _ _ (.inl rfl) e, c⟩
  | set S n => obtain ⟨ob, es, ep, t, e, c⟩ := x; exact ⟨ob, es, ep, t, k _ _ (.inl rfl) e, c⟩
  | ins C dx fs =>
    obtain ⟨d, z, ne, e, mA, ⟨od, es, ep, e2, c⟩, r⟩ := x
    exact ⟨ho _ d, z, ne, k _ _ (.inl rfl) e, mA, ⟨od, es, ep, k _ _ (.inr d) e2, c⟩, r⟩
  | own y => obtain ⟨ob, e⟩ := x; exact ⟨ob, k _ _ (.inl rfl) e⟩
  | xd fs => obtain ⟨mA, ⟨od, es, ep, e, c⟩, r⟩ := x; exact ⟨mA, ⟨od, es, ep, k _ _ (.inl rfl) e, c⟩, r⟩
  | rng lo hi => obtain ⟨t, u, v, e⟩ := x; exact ⟨t, u, v, k _ _ (.inl rfl) e⟩
  | frz ob u ih => obtain ⟨e, q⟩ := x; exact ⟨k _ _ (.inl rfl) e, ih q⟩
  | tbl ps =>
    have e : h.get? a = some { cls := .none, data := .fields ps } := x
    show h'.get? a = some { cls := .none, data := .fields ps }
    exact k a _ (.inl rfl) e
  | met f y =>
    have e : h.get? a = some (PySem.W.methodObj (.ref f) (.ref y)) := x
    show h'.get? a = some (PySem.W.methodObj (.ref f) (.ref y))
    exact k a _ (.inl rfl) e
  | ext φ => obtain ⟨p, ⟨o, e⟩, st⟩ := x; exact ⟨st _ _ p fun o q => k _ _ (.inl rfl) q, ⟨o, k _ _ (.inl rfl) e⟩, st⟩
theorem HOk.lt (x : HOk P w H h) (e : H a = some o) : a < h.objs.size := (x a o e).lt
theorem HOk.fresh (x : HOk P w H h) (e : h.objs.size ≤ a) : H a = none := by
  cases q : H a with
  | none => rfl
  | some u => exact absurd (Nat.lt_of_lt_of_le (x.lt q) e) (Nat.lt_irrefl _)
/-- every object of the heap is kept -/
theorem HOk.kept (x : HOk P w H h) (k : ∀ b u, h.get? b = some u → h'.get? b = some u) : HOk P w H h' := fun a o e =>
  (x a o e).stay (fun b u _ q => k b u q) (fun _ q => q) fun _ _ q => q
/-- a new object is laid and tracked -/
theorem HOk.laid (x : HOk P w H h) (k : ∀ b u, h.get? b = some u → h'.get? b = some u) (hp : h.objs.size ≤ a) (new : ObjOk P w (upd H a o) h' a o) : HOk P w (upd H a o) h' := fun b u e => by
  have hn := x.fresh hp
  by_cases hb : b = a
  · subst hb; rw [upd_same] at e; cases e; exact new
  · rw [upd_ne hb] at e
    exact (x b u e).stay (fun c v _ q => k c v q) (fun c q => by rw [upd_ne (ne_of_none q hn)]; exact q) fun c xs q => by rw [upd_ne (ne_of_none q hn)]; exact q
end

/-- what may be read as u: it is u, or a known u -/
def Rd (H : Hp) (a : Addr) (u : HO) : Prop := H a = some u ∨ ∃ o, H a = some (.frz o u)
theorem Rd.ok {P : Program} {w : World} {H : Hp} {h : Heap} {a : Addr} {u : HO} (r : Rd H a u) (x : HOk P w H h) : ObjOk P w H h a u := by
  rcases r with r | ⟨o, r⟩
  · exact x a u r
  · obtain ⟨_, q⟩ := x a _ r
    exact q
/-- what may be written -/
def Mut : Option HO → Prop
  | some (.lst _) => True
  | some (.dK _) => True
  | some (.dT _) => True
  | some (.set _ _) => True
  | some (.ins _ _ _) => True
  | some (.ext _) => True
  | _ => False
section
variable {P : Program} {w : World} {H : Hp} {h h' : Heap} {x e : Addr} {o' : HO}
/-- the object at e is changed: x itself, or the dict of the instance x -/
theorem HOk.write (ok : HOk P w H h) (mu : Mut (H x)) (he : e = x ∨ H e = some (.own x)) (k : ∀ b u, b ≠ e → h.get? b = some u → h'.get? b = some u) (heo : ∃ u, h'.get? e = some u)
    (new : ObjOk P w (upd H x o') h' x o') : HOk P w (upd H x o') h' := fun b u q => by
  have nown : ∀ c y, H c = some (.own y) → c ≠ x := fun c y r z => by subst z; rw [r] at mu; exact mu
  have ntup : ∀ c xs, H c = some (.tup xs) → c ≠ x := fun c xs r z => by subst z; rw [r] at mu; exact mu
  by_cases hb : b = x
  · subst hb; rw [upd_same] at q; cases q; exact new
  · rw [upd_ne hb] at q
    by_cases hbe : b = e
    · have q' : H b = some (.own x) := by
        rcases he with z | z
        · exact absurd (hbe.trans z) hb
        · rw [hbe]; exact z
      rw [q] at q'; cases q'
      obtain ⟨v, hv⟩ := heo
      exact ⟨v, by rw [hbe]; exact hv⟩
    · refine (ok b u q).stay (fun c v hc r => k c v ?_ r) (fun c r => by rw [upd_ne (nown c b r)]; exact r) fun c xs r => by rw [upd_ne (ntup c xs r)]; exact r
      rcases hc with rfl | hc
      · exact hbe
      · rintro rfl
        rcases he with z | z
        · exact nown c b hc z
        · rw [hc] at z; cases z; exact hb rfl
end

/-! ### kept unless tracked; of the frames at fs (the callers') the slots may change (an exception that passes writes there); of the records at ex (iterators) nothing is said -/
structure Un (fs ex : List Addr) (H H' : Hp) (h h' : Heap) : Prop where
  keep : ∀ b o, h.get? b = some o → H b = none → b ∉ fs → b ∉ ex → h'.get? b = some o
  slot : ∀ b o, h.get? b = some o → H b = none → b ∈ fs → b ∉ ex → ∃ sl, h'.get? b = some { o with slots := sl }
  free : ∀ b o, h.get? b = some o → H b = none → b ∉ ex → H' b = none
  there : ∀ b o, h.get? b = some o → b ∉ ex → ∃ o', h'.get? b = some o'
  tups : ∀ b xs, H b = some (.tup xs) → H' b = some (.tup xs)
  frzs : ∀ b o u, H b = some (.frz o u) → H' b = some (.frz o u)
  tbls : ∀ b ps, H b = some (.tbl ps) → ∃ more, H' b = some (.tbl (ps ++ more))
section
variable {fs fs' ex ex' : List Addr} {H H1 H2 : Hp} {h h1 h2 h' : Heap} {a x e : Addr} {o : HO}
theorem Un.any (u : Un fs ex H H1 h h1) {b : Addr} {ob : Obj} (q : h.get? b = some ob) (n : H b = none) (hx : b ∉ ex) : ∃ sl, h1.get? b = some { ob with slots := sl } := by
  by_cases hb : b ∈ fs
  · exact u.slot b ob q n hb hx
  · exact ⟨ob.slots, u.keep b ob q n hb hx⟩
theorem Un.kept (k : ∀ b u, h.get? b = some u → h'.get? b = some u) : Un fs ex H H h h' :=
  ⟨fun b ob q _ _ _ => k b ob q, fun b ob q _ _ _ => ⟨ob.slots, k b ob q⟩, fun _ _ _ n _ => n, fun b ob q _ => ⟨ob, k b ob q⟩, fun _ _ q => q, fun _ _ _ q => q, fun _ ps q => ⟨#[], by rw [q]; simp⟩⟩
theorem Un.refl : Un fs ex H H h h := Un.kept fun _ _ q => q
theorem Un.laid (k : ∀ b u, h.get? b = some u → h'.get? b = some u) (hp : h.objs.size ≤ a) (hn : H a = none) : Un fs ex H (upd H a o) h h' where
  keep := fun b u q _ _ _ => k b u q
  slot := fun b u q _ _ _ => ⟨u.slots, k b u q⟩
  free := fun b u q n _ => by rw [upd_ne (Nat.ne_of_lt (Nat.lt_of_lt_of_le (Heap.lt_size q) hp))]; exact n
  there := fun b u q _ => ⟨u, k b u q⟩
  tups := fun b xs q => by rw [upd_ne (ne_of_none q hn)]; exact q
  frzs := fun b u xs q => by rw [upd_ne (ne_of_none q hn)]; exact q
  tbls := fun b ps q => ⟨#[], by rw [upd_ne (ne_of_none q hn), q]; simp⟩
theorem Un.write (mu : Mut (H x)) (he : e = x ∨ H e = some (.own x)) (k : ∀ b u, b ≠ e → h.get? b = some u → h'.get? b = some u) (heo : ∃ u, h'.get? e = some u) : Un fs ex H (upd H x o) h h' := by
  have hx : ∀ b, H b = none → b ≠ x := fun b n z => by subst z; rw [n] at mu; exact mu
  have hb : ∀ b, H b = none → b ≠ e := fun b n z => by
    subst z
    rcases he with r | r
    · exact hx b n r
    · rw [n] at r; cases r
  have hm : ∀ b u, H b = some u → ¬ Mut (some u) → b ≠ x := fun b u q nm z => by subst z; rw [q] at mu; exact nm mu
  refine ⟨fun b u q n _ _ => k b u (hb b n) q, fun b u q n _ _ => ⟨u.slots, k b u (hb b n) q⟩, fun b u q n _ => by rw [upd_ne (hx b n)]; exact n, fun b u q _ => ?_,
    fun b xs q => by rw [upd_ne (hm b _ q fun z => z)]; exact q, fun b u xs q => by rw [upd_ne (hm b _ q fun z => z)]; exact q, fun b ps q => ⟨#[], by rw [upd_ne (hm b _ q fun z => z), q]; simp⟩⟩
  by_cases hbe : b = e
  · subst hbe; exact heo
  · exact ⟨u, k b u hbe q⟩
end

/-! ### the heap without what is tracked -/
def trk (h : Heap) (H : Hp) : List Addr := (List.range h.objs.size).filter fun a => (H a).isSome
def hidT (h : Heap) (H : Hp) : Heap := PySem.W.hideAll h (trk h H)
theorem hidT_size (h : Heap) (H : Hp) : (hidT h H).objs.size = h.objs.size := PySem.W.hideAll_size _ _
theorem hidT_get {h : Heap} {H : Hp} {b : Addr} {o : Obj} (e : h.get? b = some o) (n : H b = none) : (hidT h H).get? b = some o :=
  PySem.W.hideAll_get _ e fun hm => by
    have q : (H b).isSome = true := (List.mem_filter.mp hm).2
    rw [n] at q; simp at q
theorem of_hidT {h : Heap} {H : Hp} {b : Addr} {o : Obj} (e : (hidT h H).get? b = some o) : h.get? b = some o ∧ H b = none := by
  have e' : h.get? b = some o := PySem.W.of_hideAll (trk h H) e
  refine ⟨e', ?_⟩
  cases q : H b with
  | none => rfl
  | some x =>
    have hm : b ∈ trk h H := List.mem_filter.mpr ⟨List.mem_range.mpr (Heap.lt_size e'), by simp [q]⟩
    have z : (hidT h H).get? b = none := PySem.W.hideAll_none (trk h H) hm
    rw [z] at e; cases e

/-! ### OpenK's ledger, filled with every new object but one -/
end L2

namespace L2
open PySem PySem.Spec PyProof.Rows

/-- the module's facts, over the base: the heap at the law's entry without what is tracked there -/
structure Mod (K : PySem.W.Frag) (mg : Str → Option Value) (base : Heap) : Prop where
  kin : K.In base
  glob : base.Ns mainGlobals mg
  blt : ∃ mb, base.Ns builtinsNs mb ∧ ∀ x : Str, x ≠ "__name__" → mb x = bootBuiltins x
  nolimit : base.NoLimit

/-- the context: a def's body (or a comprehension's block) running. base: fixed through the whole law; s₀, H₀: the entry; outer: the frames whose slots others may change (a def's callers); stack: all frames that run;
   ex: iterators that were made ahead of the entry and are walked here (a comprehension's); fn: the names whose cells were made at the entry (a def: all; a comprehension's block: its own); calm: not within an except suite; pn: pins that every state bears; xe: what is wanted of an exception that leaves the code -/
structure Cx where
  prog : Program
  w : World
  K : PySem.W.Frag
  mg : Str → Option Value
  base : Heap
  A : Around
  N : List Str
  s₀ : Shared
  H₀ : Hp
  env : Env
  outer : List Env
  stack : List Env
  ex : List Addr
  fn : Str → Bool
  calm : Bool
  pn : List (Addr × Obj)
  xe : Value → Shared → Prop
/-- the callers' frames -/
def frs (l : List Env) : List Addr := l.filterMap (·.frame)
abbrev Cx.fs (X : Cx) : List Addr := frs X.outer

def Vis (sc : Scope) (x : Str) : Prop := sc.names.lookup x = some .local ∨ sc.names.lookup x = some .cell ∨ sc.names.lookup x = some .free
def Loc (sc : Scope) (x : Str) : Prop := sc.names.lookup x = some .local ∨ sc.names.lookup x = some .cell
def Look (env : Env) (h : Heap) (m : Str → Option Value) (x : Str) (u : Value) : Prop :=
  (env.kindOf x = some .local ∧ m x = some u) ∨ ((env.kindOf x = some .cell ∨ env.kindOf x = some .free) ∧ ∃ c, env.cells.lookup x = some c ∧ h.IsCell c (some u))

structure Cx.Ok (X : Cx) : Prop where
  mod : Mod X.K X.mg X.base
  kind : X.env.scope.kind = .function
  glob : X.env.globals = mainGlobals
  blt : X.env.builtins = builtinsNs
  above : X.s₀.heap.objs.size ≤ X.env.locals
  inj : ∀ x y c, X.env.cells.lookup x = some c → X.env.cells.lookup y = some c → x = y
  has : ∀ x, (X.env.kindOf x = some .cell ∨ X.env.kindOf x = some .free) → ∃ c, X.env.cells.lookup x = some c
  cab : ∀ x c, X.fn x = true → X.env.cells.lookup x = some c → X.s₀.heap.objs.size ≤ c
  hd : X.calm = true → X.A.handled = none
  frames : X.A.frames = some X.stack
  stk : X.stack = X.outer ∨ (X.stack = X.env :: X.outer ∧ X.env.frame = some X.env.locals)
  exf : ∀ b ∈ X.ex, b ≠ X.env.locals ∧ ∀ x c, X.env.cells.lookup x = some c → c ≠ b
  bs : ∀ b o, X.base.get? b = some o → X.s₀.heap.get? b = some o ∧ X.H₀ b = none
  bsz : X.base.objs.size ≤ X.s₀.heap.objs.size
  noex : ∀ b o, X.base.get? b = some o → b ∉ X.ex
  exfs : ∀ b ∈ X.ex, b ∉ X.fs
  funs : X.s₀.heap.FunFrames X.base X.outer
  frf : ∀ b ∈ X.fs, X.H₀ b = none

structure Inv (X : Cx) (pins : List (Addr × Obj)) (σ : List (Option V)) (H : Hp) (s : Shared) : Prop where
  ok : X.Ok
  os : s.os = X.s₀.os
  bare : AllBare s.gens
  base : Un X.fs X.ex X.H₀ H X.s₀.heap s.heap
  loc : ∃ m, s.heap.Ns X.env.locals m ∧ ∀ (i : Nat) (x : Str) (v : V), X.N[i]? = some x → σ[i]? = some (some v) → Vis X.env.scope x → ∃ u, RelV v u ∧ Look X.env s.heap m x u
  cell : ∀ x c, X.env.cells.lookup x = some c → ∃ v, s.heap.IsCell c v
  free : H X.env.locals = none
  freeC : ∀ x c, X.env.cells.lookup x = some c → H c = none
  pin : ∀ p ∈ X.pn ++ pins, s.heap.get? p.1 = some p.2 ∧ H p.1 = none ∧ p.1 ≠ X.env.locals ∧ p.1 ∉ X.fs ∧ ∀ v, p.2.data ≠ .cell v
  hok : HOk X.prog X.w H s.heap
  len : σ.length = X.N.length

section
variable {X : Cx} {pins : List (Addr × Obj)} {σ : List (Option V)} {H H' : Hp} {s : Shared} {h' : Heap}

theorem Cx.Ok.nofr (ok : X.Ok) {b : Addr} {o : Obj} (e : X.base.get? b = some o) : b ∉ X.fs := fun hb => by
  have := (ok.funs.mem hb).1
  rw [e] at this; cases this
theorem Inv.bs (I : Inv X pins σ H s) : ∀ b o, X.base.get? b = some o → s.heap.get? b = some o ∧ H b = none := fun b o e =>
  ⟨I.base.keep b o (I.ok.bs b o e).1 (I.ok.bs b o e).2 (I.ok.nofr e) (I.ok.noex b o e), I.base.free b o (I.ok.bs b o e).1 (I.ok.bs b o e).2 (I.ok.noex b o e)⟩
theorem Inv.bk (I : Inv X pins σ H s) : ∀ b o, X.base.get? b = some o → s.heap.get? b = some o := fun b o e => (I.bs b o e).1
theorem Inv.mod (I : Inv X pins σ H s) : Mod X.K X.mg X.base := I.ok.mod
theorem Inv.kIn (I : Inv X pins σ H s) : X.K.In s.heap := I.ok.mod.kin.keeps I.bk
theorem Inv.nolimit (I : Inv X pins σ H s) : s.heap.NoLimit := I.ok.mod.nolimit.keeps I.bk
theorem Inv.lt (I : Inv X pins σ H s) : X.env.locals < s.heap.objs.size := let ⟨_, hn, _⟩ := I.loc; hn.lt
theorem Inv.sz (I : Inv X pins σ H s) : X.s₀.heap.objs.size ≤ s.heap.objs.size := Nat.le_trans I.ok.above (Nat.le_of_lt I.lt)
theorem Inv.nofs (I : Inv X pins σ H s) {a : Addr} (h : s.heap.objs.size ≤ a) : a ∉ X.fs := fun hb => by
  obtain ⟨_, o, ho, _⟩ := I.ok.funs.mem hb
  exact absurd (Nat.lt_of_lt_of_le (Heap.lt_size ho) (Nat.le_trans I.sz h)) (Nat.lt_irrefl _)
theorem Inv.cne (I : Inv X pins σ H s) : ∀ x c, X.env.cells.lookup x = some c → c ≠ X.env.locals := fun x c e z => by
  obtain ⟨v, o, ho, hd⟩ := I.cell x c e
  obtain ⟨m, ⟨o', es, ep, ho', hd', _⟩, _⟩ := I.loc
  rw [z, ho'] at ho; cases ho; rw [hd'] at hd; cases hd
theorem Inv.funs (I : Inv X pins σ H s) : s.heap.FunFrames X.base X.outer := by
  have all : ∀ (l : List Env), (∀ b ∈ frs l, b ∈ X.fs) → X.s₀.heap.FunFrames X.base l → s.heap.FunFrames X.base l := by
    intro l
    induction l with
    | nil => intro _ _; trivial
    | cons env r ih =>
      intro hs hl
      obtain ⟨hk, ⟨L, o, hf, hn, ho, hd⟩, hr⟩ := hl
      have hL : L ∈ X.fs := hs L (by unfold frs; rw [List.filterMap_cons, hf]; exact List.mem_cons_self)
      obtain ⟨sl, e⟩ := I.base.slot L o ho (I.ok.frf L hL) hL fun z => I.ok.exfs L z hL
      exact ⟨hk, ⟨L, _, hf, hn, e, hd⟩, ih (fun b hb => hs b (by unfold frs; rw [List.filterMap_cons, hf]; exact List.mem_cons_of_mem _ hb)) hr⟩
  exact all X.outer (fun _ hb => hb) I.ok.funs

/-- the frames that run, for a call -/
theorem Inv.stack (I : Inv X pins σ H s) : s.heap.FunFrames X.base X.stack := by
  rcases I.ok.stk with e | ⟨e, hf⟩
  · rw [e]; exact I.funs
  · rw [e]
    obtain ⟨m, hn, _⟩ := I.loc
    refine .cons (by rw [I.ok.kind]; decide) hf hn ?_ I.funs
    exact Heap.get?_none_of_le (Nat.le_trans I.ok.bsz I.ok.above)
theorem Inv.stkSub (I : Inv X pins σ H s) : ∀ b ∈ frs X.stack, b ∈ X.env.locals :: X.fs := fun b hb => by
  rcases I.ok.stk with e | ⟨e, hf⟩
  · rw [e] at hb; exact List.mem_cons_of_mem _ hb
  · rw [e] at hb
    unfold frs at hb
    rw [List.filterMap_cons, hf] at hb
    exact hb
theorem Inv.stkFree (I : Inv X pins σ H s) : ∀ b ∈ frs X.stack, H b = none := fun b hb => by
  rcases List.mem_cons.mp (I.stkSub b hb) with e | hb
  · rw [e]; exact I.free
  · obtain ⟨_, o, ho, _⟩ := I.ok.funs.mem hb
    exact I.base.free b o ho (I.ok.frf b hb) fun z => I.ok.exfs b z hb

/-- THE STEP: the untracked objects but the frame and the records at ch are kept (the callers' frames up to slots), the frame's map is kept, the new abstract heap is held -/
theorem Inv.step {g' : Array GenState} {t' : Nat} {d' : Drawn} {ch : List Addr} (I : Inv X pins σ H s)
    (hch : ∀ b ∈ ch, (b ∈ X.ex ∨ X.s₀.heap.objs.size ≤ b) ∧ b ≠ X.env.locals ∧ (∀ x c, X.env.cells.lookup x = some c → c ≠ b) ∧ ∀ p ∈ X.pn ++ pins, p.1 ≠ b)
    (keep : ∀ b o, b ≠ X.env.locals → b ∉ X.fs → b ∉ ch → s.heap.get? b = some o → H b = none → h'.get? b = some o)
    (slot : ∀ b o, b ≠ X.env.locals → b ∈ X.fs → b ∉ ch → s.heap.get? b = some o → H b = none → ∃ sl, h'.get? b = some { o with slots := sl }) (free : ∀ b o, b ∉ ch → s.heap.get? b = some o → H b = none → H' b = none)
    (there : ∀ b o, b ∉ ch → s.heap.get? b = some o → ∃ o', h'.get? b = some o')
    (tups : ∀ b xs, H b = some (.tup xs) → H' b = some (.tup xs)) (frzs : ∀ b o u, H b = some (.frz o u) → H' b = some (.frz o u)) (tbls : ∀ b ps, H b = some (.tbl ps) → ∃ more, H' b = some (.tbl (ps ++ more)))
    (ns : ∀ m, s.heap.Ns X.env.locals m → h'.Ns X.env.locals m) (hok : HOk X.prog X.w H' h') (hg : AllBare g') :
    Inv X pins σ H' { s with heap := h', gens := g', drawn := d', toks := t' } := by
  have neL : ∀ b o, X.s₀.heap.get? b = some o → b ≠ X.env.locals := fun b o e => Nat.ne_of_lt (Nat.lt_of_lt_of_le (Heap.lt_size e) I.ok.above)
  have neC : ∀ b o, X.s₀.heap.get? b = some o → b ∉ X.ex → b ∉ ch := fun b o e hx hb => by
    rcases (hch b hb).1 with z | z
    · exact hx z
    · exact absurd (Nat.lt_of_lt_of_le (Heap.lt_size e) z) (Nat.lt_irrefl _)
  have cellK : ∀ x c, X.env.cells.lookup x = some c → ∀ v, s.heap.IsCell c v → h'.IsCell c v := fun x c e v ⟨o, ho, hd⟩ => by
    have nch : c ∉ ch := fun z => (hch c z).2.2.1 x c e rfl
    by_cases hc : c ∈ X.fs
    · obtain ⟨sl, q⟩ := slot c o (I.cne x c e) hc nch ho (I.freeC x c e)
      exact ⟨_, q, hd⟩
    · exact ⟨o, keep c o (I.cne x c e) hc nch ho (I.freeC x c e), hd⟩
  refine ⟨I.ok, I.os, hg, ⟨fun b o e n hb hx => ?_, fun b o e n hb hx => ?_, fun b o e n hx => ?_, fun b o e hx => ?_, fun b xs e => tups b xs (I.base.tups b xs e), fun b o xs e => frzs b o xs (I.base.frzs b o xs e), fun b ps e => ?_⟩, ?_, fun x c e => ?_, ?_, fun x c e => ?_, fun p hp => ?_, hok, I.len⟩
  · exact keep b o (neL b o e) hb (neC b o e hx) (I.base.keep b o e n hb hx) (I.base.free b o e n hx)
  · obtain ⟨sl, e1⟩ := I.base.slot b o e n hb hx
    obtain ⟨sl', e2⟩ := slot b _ (neL b o e) hb (neC b o e hx) e1 (I.base.free b o e n hx)
    exact ⟨sl', e2⟩
  · obtain ⟨o', e1⟩ := I.base.there b o e hx
    exact free b o' (neC b o e hx) e1 (I.base.free b o e n hx)
  · obtain ⟨o', e1⟩ := I.base.there b o e hx
    exact there b o' (neC b o e hx) e1
  · obtain ⟨m1, e1⟩ := I.base.tbls b ps e
    obtain ⟨m2, e2⟩ := tbls b _ e1
    exact ⟨m1 ++ m2, by rw [e2, Array.append_assoc]⟩
  · obtain ⟨m, hn, hl⟩ := I.loc
    refine ⟨m, ns m hn, fun i x v e1 e2 e3 => ?_⟩
    obtain ⟨u, r, l⟩ := hl i x v e1 e2 e3
    refine ⟨u, r, ?_⟩
    rcases l with l | ⟨k, c, e, z⟩
    · exact .inl l
    · exact .inr ⟨k, c, e, cellK x c e _ z⟩
  · obtain ⟨v, z⟩ := I.cell x c e
    exact ⟨v, cellK x c e v z⟩
  · obtain ⟨m, ⟨o, _, _, ho, _⟩, _⟩ := I.loc
    exact free _ o (fun z => (hch _ z).2.1 rfl) ho I.free
  · obtain ⟨v, o, ho, hd⟩ := I.cell x c e
    exact free c o (fun z => (hch c z).2.2.1 x c e rfl) ho (I.freeC x c e)
  · obtain ⟨e, n, ne, nf, d⟩ := I.pin p hp
    have nch : p.1 ∉ ch := fun z => (hch p.1 z).2.2.2 p hp rfl
    exact ⟨keep p.1 p.2 ne nf nch e n, free p.1 p.2 nch e n, ne, nf, d⟩
/-- .. where the frame's own object is kept too -/
theorem Inv.un {t' : Nat} (I : Inv X pins σ H s) (u : Un X.fs [] H H' s.heap h') (hok : HOk X.prog X.w H' h') : Inv X pins σ H' { s with heap := h', toks := t' } := by
  obtain ⟨m, ⟨o, es, ep, ho, r⟩, _⟩ := id I.loc
  obtain ⟨sl, hL⟩ := u.any ho I.free (by simp)
  exact I.step (g' := s.gens) (d' := s.drawn) (ch := []) (fun _ z => nomatch z) (fun b o _ hb _ e n => u.keep b o e n hb (by simp)) (fun b o _ hb _ e n => u.slot b o e n hb (by simp)) (fun b o _ e n => u.free b o e n (by simp)) (fun b o _ e => u.there b o e (by simp)) u.tups u.frzs u.tbls (fun m' hm => by
    obtain ⟨o', es', ep', ho', r'⟩ := hm
    rw [ho] at ho'; cases ho'
    exact ⟨_, es', ep', hL, r'⟩) hok I.bare
/-- behind a call (or a comprehension's block): the slots of this frame may have changed too, the records at ch may have turned -/
theorem Inv.call {g' : Array GenState} {t' : Nat} {d' : Drawn} {ch : List Addr} (I : Inv X pins σ H s) (u : Un (frs X.stack) ch H H' s.heap h') (hok : HOk X.prog X.w H' h') (hg : AllBare g')
    (hch : ∀ b ∈ ch, (b ∈ X.ex ∨ X.s₀.heap.objs.size ≤ b) ∧ b ≠ X.env.locals ∧ (∀ x c, X.env.cells.lookup x = some c → c ≠ b) ∧ ∀ p ∈ X.pn ++ pins, p.1 ≠ b) :
    Inv X pins σ H' { s with heap := h', gens := g', drawn := d', toks := t' } := by
  obtain ⟨m, ⟨o, es, ep, ho, r⟩, _⟩ := id I.loc
  obtain ⟨sl, hL⟩ := u.any ho I.free fun z => (hch _ z).2.1 rfl
  exact I.step (ch := ch) hch (fun b o hL hb hc e n => u.keep b o e n (fun z => (List.mem_cons.mp (I.stkSub b z)).elim hL hb) hc) (fun b o _ _ hc e n => u.any e n hc) (fun b o hc e n => u.free b o e n hc) (fun b o hc e => u.there b o e hc) u.tups u.frzs u.tbls (fun m' hm => by
    obtain ⟨o', es', ep', ho', r'⟩ := hm
    rw [ho] at ho'; cases ho'
    exact ⟨_, es', ep', hL, r'⟩) hok hg
/-- an untracked record of ours (an iterator) has turned -/
theorem Inv.turned {t' : Nat} {it : Addr} (I : Inv X pins σ H s) (k : ∀ b o, b ≠ it → s.heap.get? b = some o → h'.get? b = some o) (hn : H it = none) (hL : it ≠ X.env.locals)
    (h1 : it ∈ X.ex ∨ X.s₀.heap.objs.size ≤ it) (h2 : ∀ x c, X.env.cells.lookup x = some c → c ≠ it) (h3 : ∀ p ∈ X.pn ++ pins, p.1 ≠ it) : Inv X pins σ H { s with heap := h', toks := t' } := by
  have nit : ∀ b u, H b = some u → b ≠ it := fun b u e z => by rw [z, hn] at e; cases e
  refine I.step (g' := s.gens) (d' := s.drawn) (ch := [it]) (fun b hb => ?_) (fun b o _ _ hc e _ => k b o (fun z => hc (by simp [z])) e) (fun b o _ _ hc e _ => ⟨o.slots, k b o (fun z => hc (by simp [z])) e⟩) (fun _ _ _ _ n => n)
    (fun b o hc e => ⟨o, k b o (fun z => hc (by simp [z])) e⟩) (fun _ _ e => e) (fun _ _ _ e => e) (fun b ps e => ⟨#[], by rw [e]; simp⟩) (fun m hm => ?_) (fun b u e => ?_) I.bare
  · have e : b = it := by simpa using hb
    subst e
    exact ⟨h1, hL, h2, h3⟩
  · obtain ⟨o, es, ep, ho, r⟩ := hm
    exact ⟨o, es, ep, k _ o (Ne.symm hL) ho, r⟩
  · refine (I.hok b u e).stay (fun c v hc q => k c v ?_ q) (fun _ q => q) fun _ _ q => q
    rcases hc with z | z
    · rw [z]; exact nit b u e
    · exact nit c _ z
theorem Inv.tok (I : Inv X pins σ H s) (t : Nat) : Inv X pins σ H { s with toks := t } := I.un (h' := s.heap) (t' := t) Un.refl I.hok
/-- all objects kept -/
theorem Inv.kept {t' : Nat} (I : Inv X pins σ H s) (k : ∀ b u, s.heap.get? b = some u → h'.get? b = some u) : Inv X pins σ H { s with heap := h', toks := t' } := I.un (Un.kept k) (I.hok.kept k)
/-- a new object laid and tracked -/
theorem Inv.laid {a : Addr} {o : HO} {t' : Nat} (I : Inv X pins σ H s) (k : ∀ b u, s.heap.get? b = some u → h'.get? b = some u) (hp : s.heap.objs.size ≤ a) (new : ObjOk X.prog X.w (upd H a o) h' a o) :
    Inv X pins σ (upd H a o) { s with heap := h', toks := t' } := I.un (Un.laid k hp (I.hok.fresh hp)) (I.hok.laid k hp new)
/-- an object written -/
theorem Inv.write {x e : Addr} {o : HO} {t' : Nat} (I : Inv X pins σ H s) (mu : Mut (H x)) (he : e = x ∨ H e = some (.own x)) (k : ∀ b u, b ≠ e → s.heap.get? b = some u → h'.get? b = some u) (heo : ∃ u, h'.get? e = some u)
    (new : ObjOk X.prog X.w (upd H x o) h' x o) : Inv X pins σ (upd H x o) { s with heap := h', toks := t' } := I.un (Un.write mu he k heo) (I.hok.write mu he k heo new)
/-- forgetting slots, pins -/
theorem Inv.weak {σ' : List (Option V)} (I : Inv X pins σ H s) (hl : σ'.length = σ.length) (w : ∀ (i : Nat) v, σ'[i]? = some (some v) → σ[i]? = some (some v)) : Inv X pins σ' H s :=
  ⟨I.ok, I.os, I.bare, I.base, let ⟨m, hn, hl'⟩ := I.loc; ⟨m, hn, fun i x v e1 e2 e3 => hl' i x v e1 (w i v e2) e3⟩, I.cell, I.free, I.freeC, I.pin, I.hok, hl.trans I.len⟩
theorem Inv.pins_of {pins' : List (Addr × Obj)} (I : Inv X pins σ H s) (h : ∀ p ∈ pins', s.heap.get? p.1 = some p.2 ∧ H p.1 = none ∧ p.1 ≠ X.env.locals ∧ p.1 ∉ X.fs ∧ ∀ v, p.2.data ≠ .cell v) : Inv X pins' σ H s :=
  ⟨I.ok, I.os, I.bare, I.base, I.loc, I.cell, I.free, I.freeC, fun p hp => (List.mem_append.mp hp).elim (fun z => I.pin p (List.mem_append_left _ z)) (h p), I.hok, I.len⟩

theorem nodup_ix {N : List Str} (hN : N.Nodup) {i j : Nat} {x : Str} (a : N[i]? = some x) (b : N[j]? = some x) : i = j := by
  obtain ⟨h1, e1⟩ := List.getElem?_eq_some_iff.mp a
  obtain ⟨h2, e2⟩ := List.getElem?_eq_some_iff.mp b
  exact (List.getElem_inj hN).mp (e1.trans e2.symm)

/-- a name is stored; what changed -/
theorem store_ok2 {M : Model} {A : Around} {E : Value → Shared → Prop} {i : Nat} {x : Str} {v : V} {u : Value} {Q : Unit → Shared → Prop} (I : Inv X pins σ H s) (hN : X.N.Nodup) (hi : X.N[i]? = some x) (hx : Loc X.env.scope x) (r : RelV v u)
    (h : ∀ s', Inv X pins (σ.set i (some v)) H s' → (∃ a, Heap.SameBut a s.heap s'.heap ∧ (a = X.env.locals ∨ X.env.cells.lookup x = some a)) → Q () s') (hf : X.fn x = true ∨ X.env.scope.names.lookup x = some .local := by first | exact .inl rfl | exact .inr rfl | assumption) : wpAny M A (storeName X.env x u) Q E s := by
  obtain ⟨m, hn, hl⟩ := id I.loc
  have hcls : (X.env.scope.kind == .class || (X.env.scope.kind == .module && X.env.locals != X.env.globals)) = false := by rw [I.ok.kind]; rfl
  have hiσ : i < σ.length := by rw [I.len]; exact (List.getElem?_eq_some_iff.mp hi).1
  have cne := I.cne
  have tracked : ∀ {a : Addr} {h' : Heap}, (∃ o, s.heap.get? a = some o ∧ H a = none) → Heap.SameBut a s.heap h' → HOk X.prog X.w H h' := fun {a h'} ha hs b ob e => by
    obtain ⟨_, _, hfree⟩ := ha
    refine (I.hok b ob e).stay (fun c w' hc q => (hs.2 c ?_).trans q) (fun _ q => q) fun _ _ q => q
    rintro rfl
    rcases hc with rfl | hc
    · rw [hfree] at e; cases e
    · rw [hfree] at hc; cases hc
  rcases hx with hk | hk
  · refine wpAny_storeName_local hk hn (fun h' hn' hs => ?_) hcls
    obtain ⟨oL, _, _, hoL, _⟩ := id hn
    refine h _ ⟨I.ok, I.os, I.bare, ⟨fun b o e n hb hx => ?_, fun b o e n hb hx => ?_, I.base.free, fun b o e hx => ?_, I.base.tups, I.base.frzs, I.base.tbls⟩, ⟨_, hn', fun j y v' e1 e2 e3 => ?_⟩, fun y c e => ?_, I.free, I.freeC, fun p hp => ?_, tracked ⟨oL, hoL, I.free⟩ hs, by simpa using I.len⟩ ⟨_, hs, .inl rfl⟩
    · exact (hs.2 b (Nat.ne_of_lt (Nat.lt_of_lt_of_le (Heap.lt_size e) I.ok.above))).trans (I.base.keep b o e n hb hx)
    · obtain ⟨sl, e1⟩ := I.base.slot b o e n hb hx
      exact ⟨sl, (hs.2 b (Nat.ne_of_lt (Nat.lt_of_lt_of_le (Heap.lt_size e) I.ok.above))).trans e1⟩
    · obtain ⟨o', e1⟩ := I.base.there b o e hx
      exact ⟨o', (hs.2 b (Nat.ne_of_lt (Nat.lt_of_lt_of_le (Heap.lt_size e) I.ok.above))).trans e1⟩
    · by_cases hj : j = i
      · subst hj
        rw [hi] at e1; cases e1
        rw [List.getElem?_set_self hiσ] at e2
        cases e2
        exact ⟨u, r, .inl ⟨hk, by simp⟩⟩
      · rw [List.getElem?_set_ne (Ne.symm hj)] at e2
        obtain ⟨u', r', q⟩ := hl j y v' e1 e2 e3
        refine ⟨u', r', ?_⟩
        rcases q with ⟨k, e⟩ | ⟨k, c, e, z⟩
        · refine .inl ⟨k, ?_⟩
          have : y ≠ x := fun e => hj (nodup_ix hN e1 (e ▸ hi))
          simp [this, e]
        · exact .inr ⟨k, c, e, z.sameBut hs (cne y c e)⟩
    · obtain ⟨w', z⟩ := I.cell y c e
      exact ⟨w', z.sameBut hs (cne y c e)⟩
    · obtain ⟨e, n, ne, nf, d⟩ := I.pin p hp
      exact ⟨(hs.2 p.1 ne).trans e, n, ne, nf, d⟩
  · have hfn : X.fn x = true := by
      rcases hf with z | z
      · exact z
      · rw [z] at hk; cases hk
    obtain ⟨c, hc⟩ := I.ok.has x (.inl hk)
    obtain ⟨w', z⟩ := I.cell x c hc
    refine wpAny_storeName_cell I.ok.kind hk hc z (fun h' hc' hs => ?_)
    obtain ⟨oc, hoc, hocd⟩ := id z
    refine h { s with heap := h' } ⟨I.ok, I.os, I.bare, ⟨fun b o e n hb hx => ?_, fun b o e n hb hx => ?_, I.base.free, fun b o e hx => ?_, I.base.tups, I.base.frzs, I.base.tbls⟩, ⟨m, hn.sameBut hs (Ne.symm (cne x c hc)), fun j y v' e1 e2 e3 => ?_⟩, fun y c' e => ?_, I.free, I.freeC, fun p hp => ?_, tracked ⟨oc, hoc, I.freeC x c hc⟩ hs, by simpa using I.len⟩ ⟨c, hs, .inr hc⟩
    · exact (hs.2 b (Nat.ne_of_lt (Nat.lt_of_lt_of_le (Heap.lt_size e) (I.ok.cab x c hfn hc)))).trans (I.base.keep b o e n hb hx)
    · obtain ⟨sl, e1⟩ := I.base.slot b o e n hb hx
      exact ⟨sl, (hs.2 b (Nat.ne_of_lt (Nat.lt_of_lt_of_le (Heap.lt_size e) (I.ok.cab x c hfn hc)))).trans e1⟩
    · obtain ⟨o', e1⟩ := I.base.there b o e hx
      exact ⟨o', (hs.2 b (Nat.ne_of_lt (Nat.lt_of_lt_of_le (Heap.lt_size e) (I.ok.cab x c hfn hc)))).trans e1⟩
    · by_cases hj : j = i
      · subst hj
        rw [hi] at e1; cases e1
        rw [List.getElem?_set_self hiσ] at e2
        cases e2
        exact ⟨u, r, .inr ⟨.inl hk, c, hc, hc'⟩⟩
      · rw [List.getElem?_set_ne (Ne.symm hj)] at e2
        obtain ⟨u', r', q⟩ := hl j y v' e1 e2 e3
        refine ⟨u', r', ?_⟩
        rcases q with q | ⟨k, c', e, z'⟩
        · exact .inl q
        · refine .inr ⟨k, c', e, z'.sameBut hs ?_⟩
          rintro rfl
          exact hj (nodup_ix hN e1 (I.ok.inj _ _ _ e hc ▸ hi))
    · by_cases hcc : c' = c
      · subst hcc; exact ⟨_, hc'⟩
      · obtain ⟨w2, z2⟩ := I.cell y c' e
        exact ⟨w2, z2.sameBut hs hcc⟩
    · obtain ⟨e, n, ne, nf, d⟩ := I.pin p hp
      refine ⟨(hs.2 p.1 ?_).trans e, n, ne, nf, d⟩
      intro q
      rw [q, hoc] at e
      have q' : oc = p.2 := Option.some.inj e
      exact d w' (by rw [← q']; exact hocd)
theorem store_ok {M : Model} {A : Around} {E : Value → Shared → Prop} {i : Nat} {x : Str} {v : V} {u : Value} {Q : Unit → Shared → Prop} (I : Inv X pins σ H s) (hN : X.N.Nodup) (hi : X.N[i]? = some x) (hx : Loc X.env.scope x) (r : RelV v u)
    (h : ∀ s', Inv X pins (σ.set i (some v)) H s' → Q () s') (hf : X.fn x = true ∨ X.env.scope.names.lookup x = some .local := by first | exact .inl rfl | exact .inr rfl | assumption) : wpAny M A (storeName X.env x u) Q E s :=
  store_ok2 I hN hi hx r (fun s' I' _ => h s' I') hf
/-- behind a call or a block, the state as it is -/
theorem Inv.call' {s' : Shared} {ch : List Addr} (I : Inv X pins σ H s) (ho : s'.os = s.os) (u : Un (frs X.stack) ch H H' s.heap s'.heap) (hok : HOk X.prog X.w H' s'.heap) (hg : AllBare s'.gens)
    (hch : ∀ b ∈ ch, (b ∈ X.ex ∨ X.s₀.heap.objs.size ≤ b) ∧ b ≠ X.env.locals ∧ (∀ x c, X.env.cells.lookup x = some c → c ≠ b) ∧ ∀ p ∈ X.pn ++ pins, p.1 ≠ b) : Inv X pins σ H' s' := by
  obtain ⟨h', g', d', t', o'⟩ := s'
  have e : o' = s.os := ho
  subst e
  exact I.call (g' := g') (t' := t') (d' := d') u hok hg hch
end

/-! ### the judgements -/
/-- an exception: its class, its own dict's address (where it has one), the abstract heap behind it -/
abbrev XK := Value → Option Addr → Hp → Prop
abbrev St := List (Option V)
abbrev VK := V → Hp → Prop
/-- an expression's reading; a test's; an argument list's -/
abbrev TE := St → Hp → VK → Prop
abbrev TT := St → Hp → (Bool → Hp → Prop) → Prop
abbrev TA := St → Hp → (List V → Hp → Prop) → Prop
/-- what is wanted behind a statement -/
structure Ends where
  nx : St → Hp → Prop
  rt : VK
  bk : St → Hp → Prop := fun _ _ => False
  ct : St → Hp → Prop := fun _ _ => False
abbrev TS := Ends → St → Hp → Prop

def EP (X : Cx) (pins : List (Addr × Obj)) (σ : St) (Q : VK) (u : Value) (s' : Shared) : Prop := ∃ v H', Inv X pins σ H' s' ∧ RelV v u ∧ Q v H'
def TP (X : Cx) (pins : List (Addr × Obj)) (σ : St) (Q : Bool → Hp → Prop) (b : Bool) (s' : Shared) : Prop := ∃ H', Inv X pins σ H' s' ∧ Q b H'
def AP (X : Cx) (pins : List (Addr × Obj)) (σ : St) (Q : List V → Hp → Prop) (us : List Value) (s' : Shared) : Prop := ∃ vs H', Inv X pins σ H' s' ∧ Vals vs us ∧ Q vs H'
def SP (X : Cx) (pins : List (Addr × Obj)) (D : Ends) (f : Flow) (s' : Shared) : Prop :=
  match f with
  | .next => ∃ σ' H', Inv X pins σ' H' s' ∧ D.nx σ' H'
  | .brk => ∃ σ' H', Inv X pins σ' H' s' ∧ D.bk σ' H'
  | .cont => ∃ σ' H', Inv X pins σ' H' s' ∧ D.ct σ' H'
  | .ret u => ∃ v σ' H', Inv X pins σ' H' s' ∧ RelV v u ∧ D.rt v H'

def PE (X : Cx) (e : Expr) (t : TE) : Prop :=
  ∀ (pins : List (Addr × Obj)) (s : Shared) (σ : St) (H : Hp) (Q : VK), Inv X pins σ H s → t σ H Q → wpAny (model X.prog X.w) X.A (eval e X.env) (EP X pins σ Q) X.xe s
def PT (X : Cx) (e : Expr) (t : TT) : Prop :=
  ∀ (pins : List (Addr × Obj)) (s : Shared) (σ : St) (H : Hp) (Q : Bool → Hp → Prop), Inv X pins σ H s → t σ H Q → wpAny (model X.prog X.w) X.A (isTrue e X.env (eval e X.env)) (TP X pins σ Q) X.xe s
/-- a test whatever its 'whole' is (and, or) -/
def PW (X : Cx) (e : Expr) (t : TT) : Prop :=
  ∀ (whole : Sem Value) (pins : List (Addr × Obj)) (s : Shared) (σ : St) (H : Hp) (Q : Bool → Hp → Prop), Inv X pins σ H s → t σ H Q → wpAny (model X.prog X.w) X.A (isTrue e X.env whole) (TP X pins σ Q) X.xe s
theorem PW.pt {X : Cx} {e : Expr} {t : TT} (h : PW X e t) : PT X e t := h _
/-- an argument list (no star), from the left -/
def PA (X : Cx) (es : List Expr) (t : TA) : Prop :=
  ∀ (pos : Pos) (pins : List (Addr × Obj)) (s : Shared) (σ : St) (H : Hp) (Q : List V → Hp → Prop), Inv X pins σ H s → t σ H Q → wpAny (model X.prog X.w) X.A (spliced (backTo pos (starEach es X.env))) (AP X pins σ Q) X.xe s
def PS (X : Cx) (st : Stmt) (t : TS) : Prop :=
  ∀ (pins : List (Addr × Obj)) (s : Shared) (σ : St) (H : Hp) (D : Ends), Inv X pins σ H s → t D σ H → wpAny (model X.prog X.w) X.A (exec st X.env) (SP X pins D) X.xe s
def PSs (X : Cx) (st : List Stmt) (t : TS) : Prop :=
  ∀ (pins : List (Addr × Obj)) (s : Shared) (σ : St) (H : Hp) (D : Ends), Inv X pins σ H s → t D σ H → wpAny (model X.prog X.w) X.A (execs st X.env) (SP X pins D) X.xe s
/-- weaken the end -/
theorem thn {α : Type} {t : Sem α} {Q Q' : α → Shared → Prop} {M : Model} {A : Around} {E : Value → Shared → Prop} {s : Shared} (h : wpAny M A t Q E s) (hQ : ∀ a s, Q a s → Q' a s) : wpAny M A t Q' E s := wpAny_mono h hQ fun _ _ x => x
end L2

namespace L2
open PySem PySem.Spec PyProof.Rows
section
variable {X : Cx}


/-! ### names and constants -/
def tVar (i : Nat) : TE := fun σ H Q => ∃ v, σ[i]? = some (some v) ∧ Q v H
def tC (v : V) : TE := fun _ H Q => Q v H
theorem pe_var {i : Nat} {x : Str} {pos : Pos} (hN : X.N[i]? = some x) (hv : Vis X.env.scope x) (hd : (x == ("__debug__" : Str)) = false := by decide) (hcd : (x == ("__classdict__" : Str)) = false := by decide) : PE X (.Name x pos) (tVar i) := by
  intro pins s σ H Q I h
  obtain ⟨v, e, h⟩ := h
  obtain ⟨m, hn, hl⟩ := I.loc
  obtain ⟨u, r, l⟩ := hl i x v hN e hv
  have fin : EP X pins σ Q u s := ⟨v, H, I, r, h⟩
  rcases l with ⟨hk, hm⟩ | ⟨hk, c, hc, hcell⟩
  · exact wpAny_Name (wpAny_loadName_local I.ok.kind hk hn hm fin) hd
  · rcases hk with hk | hk
    · exact wpAny_Name (wpAny_loadName_cell I.ok.kind hk hc hcell fin) hd
    · exact wpAny_Name (wpAny_loadName_free I.ok.kind hk hc hcell fin hcd) hd
theorem pe_int {i j pos} : PE X (.Constant (.int i) j pos) (tC (.int i)) := fun _ _ _ H _ I h => wpAny_Constant_int ⟨.int i, H, I.tok _, ⟨_, rfl⟩, h⟩
theorem pe_bl {b j pos} : PE X (.Constant (.bool b) j pos) (tC (.bl b)) := fun _ _ _ H _ I h => Constant_bool ⟨.bl b, H, I, rfl, h⟩
theorem pe_non {j pos} : PE X (.Constant .none j pos) (tC .non) := fun _ _ _ H _ I h => Constant_none ⟨.non, H, I, rfl, h⟩

/-- a global name of the def -/
def Gl (X : Cx) (x : Str) : Prop := X.env.kindOf x = some .globalImplicit
theorem ld_glob {E : Value → Shared → Prop} {pins : List (Addr × Obj)} {s : Shared} {σ : St} {H : Hp} {x : Str} {u : Value} {pos : Pos} {Q : Value → Shared → Prop} (I : Inv X pins σ H s) (hg : Gl X x) (hm : X.mg x = some u) (h : Q u s)
    (hd : (x == ("__debug__" : Str)) = false := by decide) : wpAny (model X.prog X.w) X.A (eval (.Name x pos) X.env) Q E s :=
  Calls.Name_function_global I.ok.kind hg (Calls.loadGlobal_global (by rw [I.ok.glob]; exact I.mod.glob.keeps I.bk) hm h) hd
theorem ld_blt {E : Value → Shared → Prop} {pins : List (Addr × Obj)} {s : Shared} {σ : St} {H : Hp} {x : Str} {u : Value} {pos : Pos} {Q : Value → Shared → Prop} (I : Inv X pins σ H s) (hg : Gl X x) (hm : X.mg x = none) (hv : bootBuiltins x = some u) (h : Q u s)
    (hn : x ≠ "__name__" := by decide) (hd : (x == ("__debug__" : Str)) = false := by decide) : wpAny (model X.prog X.w) X.A (eval (.Name x pos) X.env) Q E s := by
  obtain ⟨mb, h1, h2⟩ := I.mod.blt
  exact Calls.Name_function_global I.ok.kind hg (Calls.loadGlobal_builtin (by rw [I.ok.glob]; exact I.mod.glob.keeps I.bk) hm (by rw [I.ok.blt]; exact h1.keeps I.bk) ((h2 x hn).trans hv) h) hd
theorem pe_bltn {x : Str} {v : V} {u : Value} {pos : Pos} (hg : Gl X x) (hm : X.mg x = none) (hv : bootBuiltins x = some u) (r : RelV v u) (hn : x ≠ "__name__" := by decide) (hd : (x == ("__debug__" : Str)) = false := by decide) : PE X (.Name x pos) (tC v) :=
  fun _ _ _ H _ I h => ld_blt I hg hm hv ⟨v, H, I, r, h⟩ hn hd

/-! ### arithmetic -/
variable {a b : Expr} {ta tb : TE} {pos : Pos}

/-! ### comparisons -/
/-- a comparison as a value, as a test -/
def tB (t : TE) : TT := fun σ H Q => t σ H fun x H1 => ∃ c, x = .bl c ∧ Q c H1
/-- an expression whose value is a bool, as a test -/
theorem pt_val {e : Expr} {t : TE} (h : PE X e t) (he : ∀ whole, isTrue e X.env whole = (do let v ← whole; standAt e.pos; holding [v] (truthy v)) := by intro _; rfl) : PT X e (tB t) := by
  intro pins s σ H Q I hw
  refine isTrue_plain (thn (h pins s σ H _ I hw) fun v s1 ⟨x, H1, I1, r1, q1⟩ => ?_) (he _)
  obtain ⟨d, rfl, q⟩ := q1
  cases r1
  exact wpAny_truthy_bool ⟨H1, I1, q⟩

/-! ### and, or, not -/
variable {tA tB' : TT} {rest : List Expr}
def tAnd (t u : TT) : TT := fun σ H Q => t σ H fun c H1 => if c = true then u σ H1 Q else Q false H1
def tOr (t u : TT) : TT := fun σ H Q => t σ H fun c H1 => if c = true then Q true H1 else u σ H1 Q
def tNot (t : TT) : TT := fun σ H Q => t σ H fun c H1 => Q (!c) H1
theorem pw_and1 (ha : PT X a tA) : PW X (.BoolOp .And [a] pos) tA := by
  intro wh pins s σ H Q I h
  refine isTrue_and (thn (ha pins s σ H Q I h) fun c s1 e => ?_)
  cases c with
  | true => exact isTrue_and_nil e
  | false => exact e
theorem pw_or1 (ha : PT X a tA) : PW X (.BoolOp .Or [a] pos) tA := by
  intro wh pins s σ H Q I h
  refine isTrue_or (thn (ha pins s σ H Q I h) fun c s1 e => ?_)
  cases c with
  | false => exact isTrue_or_nil e
  | true => exact e
theorem pw_and (ha : PT X a tA) (hb : PW X (.BoolOp .And (b :: rest) pos) tB') : PW X (.BoolOp .And (a :: b :: rest) pos) (tAnd tA tB') := by
  intro wh pins s σ H Q I h
  refine isTrue_and (thn (ha pins s σ H _ I h) fun c s1 ⟨H1, I1, q1⟩ => ?_)
  cases c with
  | true => exact hb wh pins s1 σ H1 Q I1 q1
  | false => exact ⟨H1, I1, q1⟩
theorem pw_or (ha : PT X a tA) (hb : PW X (.BoolOp .Or (b :: rest) pos) tB') : PW X (.BoolOp .Or (a :: b :: rest) pos) (tOr tA tB') := by
  intro wh pins s σ H Q I h
  refine isTrue_or (thn (ha pins s σ H _ I h) fun c s1 ⟨H1, I1, q1⟩ => ?_)
  cases c with
  | true => exact ⟨H1, I1, q1⟩
  | false => exact hb wh pins s1 σ H1 Q I1 q1
theorem pt_not (ha : PT X a tA) : PT X (.UnaryOp .Not a pos) (tNot tA) := by
  intro pins s σ H Q I h
  exact isTrue_not (ha pins s σ H (fun c H1 => Q (!c) H1) I h)
/-- .. as values (bools) -/
def tAndV (ta tb : TE) : TE := fun σ H Q => ta σ H fun x H1 => ∃ c, x = .bl c ∧ if c = true then tb σ H1 Q else Q (.bl false) H1
def tOrV (ta tb : TE) : TE := fun σ H Q => ta σ H fun x H1 => ∃ c, x = .bl c ∧ if c = true then Q (.bl true) H1 else tb σ H1 Q
def tNotV (ta : TE) : TE := fun σ H Q => ta σ H fun x H1 => ∃ c, x = .bl c ∧ Q (.bl (!c)) H1
theorem pe_one {op} {t : TE} (h : PE X a t) : PE X (.BoolOp op [a] pos) t := fun pins s σ H Q I hw => BoolOp_one (h pins s σ H Q I hw)
theorem pe_and (ha : PE X a ta) (hb : PE X (.BoolOp .And (b :: rest) pos) tb) : PE X (.BoolOp .And (a :: b :: rest) pos) (tAndV ta tb) := by
  intro pins s σ H Q I h
  refine BoolOp_and (thn (ha pins s σ H _ I h) fun v s1 ⟨x, H1, I1, r1, q1⟩ => ?_)
  obtain ⟨c, rfl, q1⟩ := q1
  cases r1
  refine wpAny_truthy_bool ?_
  cases c with
  | true => exact hb pins s1 σ H1 Q I1 q1
  | false => exact ⟨.bl false, H1, I1, rfl, q1⟩
theorem pe_or (ha : PE X a ta) (hb : PE X (.BoolOp .Or (b :: rest) pos) tb) : PE X (.BoolOp .Or (a :: b :: rest) pos) (tOrV ta tb) := by
  intro pins s σ H Q I h
  refine BoolOp_or (thn (ha pins s σ H _ I h) fun v s1 ⟨x, H1, I1, r1, q1⟩ => ?_)
  obtain ⟨c, rfl, q1⟩ := q1
  cases r1
  refine wpAny_truthy_bool ?_
  cases c with
  | false => exact hb pins s1 σ H1 Q I1 q1
  | true => exact ⟨.bl true, H1, I1, rfl, q1⟩
theorem pe_not (ha : PE X a ta) : PE X (.UnaryOp .Not a pos) (tNotV ta) := by
  intro pins s σ H Q I h
  refine UnaryOp_ (thn (ha pins s σ H _ I h) fun v s1 ⟨x, H1, I1, r1, q1⟩ => ?_)
  obtain ⟨c, rfl, q1⟩ := q1
  cases r1
  exact not_of (wpAny_truthy_bool ⟨.bl (!c), H1, I1, rfl, q1⟩)
/-- a if t else b -/
def tIf (t : TT) (ta tb : TE) : TE := fun σ H Q => t σ H fun c H1 => if c = true then ta σ H1 Q else tb σ H1 Q
theorem pe_ifExp {c : Expr} (hc : PT X c tA) (ha : PE X a ta) (hb : PE X b tb) : PE X (.IfExp c a b pos) (tIf tA ta tb) := by
  intro pins s σ H Q I h
  refine wpAny_IfExp (thn (hc pins s σ H _ I h) fun d s1 ⟨H1, I1, q1⟩ => ?_)
  cases d with
  | true => exact ha pins s1 σ H1 Q I1 q1
  | false => exact hb pins s1 σ H1 Q I1 q1
end
end L2

namespace L2
open PySem PySem.Spec PyProof.Rows

/-! ### a list, a tuple that is read: tracked, frozen, or an object of the module -/
def SqL (K : PySem.W.Frag) (H : Hp) (a : Addr) (xs : List V) : Prop :=
  Rd H a (.lst xs) ∨
    ∃ (o : Obj) (its : Array Value) (n : Nat), K.lookup a = some o ∧ o.cls = .type "list" ∧ o.dict = none ∧ o.data = .seq its n ∧ its.size ≤ sizeLine ∧ Vals xs its.toList
def SqT (K : PySem.W.Frag) (H : Hp) (a : Addr) (xs : List V) : Prop :=
  Rd H a (.tup xs) ∨
    ∃ (o : Obj) (its : Array Value) (n : Nat), K.lookup a = some o ∧ o.cls = .type "tuple" ∧ o.data = .seq its n ∧ its.size ≤ sizeLine ∧ Vals xs its.toList
def absV : Value → Option V
  | .none => some .non
  | .bool b => some (.bl b)
  | .int i _ => some (.int i)
  | .str x _ => some (.str x)
  | .bytes b _ => some (.byt b)
  | .float b _ => some (.flt b)
  | .ref a => some (.ref a)
  | .type n => some (.ty n)
  | _ => none
theorem RelV.abs {x : V} {u : Value} (r : RelV x u) : absV u = some x := by
  cases x with
  | non => cases r; rfl
  | bl _ => cases r; rfl
  | int _ => obtain ⟨t, rfl⟩ := r; rfl
  | str _ => obtain ⟨t, rfl⟩ := r; rfl
  | byt _ => obtain ⟨t, rfl⟩ := r; rfl
  | flt _ => obtain ⟨t, rfl⟩ := r; rfl
  | ref _ => cases r; rfl
  | ty _ => cases r; rfl
theorem RelV.inj {x y : V} {u : Value} (r : RelV x u) (q : RelV y u) : x = y := Option.some.inj (r.abs.symm.trans q.abs)
theorem Vals.inj : ∀ {xs ys : List V} {us : List Value}, Vals xs us → Vals ys us → xs = ys
  | _, _, _, .nil, .nil => rfl
  | _, _, _, .cons r t, .cons r' t' => by rw [r.inj r', Vals.inj t t']
section
variable {X : Cx} {pins : List (Addr × Obj)} {σ : St} {H : Hp} {s : Shared} {a : Addr} {xs ys : List V}
theorem SqL.of {K : PySem.W.Frag} (h : H a = some (.lst xs)) : SqL K H a xs := .inl (.inl h)
theorem SqT.of {K : PySem.W.Frag} (h : H a = some (.tup xs)) : SqT K H a xs := .inl (.inl h)
theorem Inv.list (I : Inv X pins σ H s) (h : SqL X.K H a xs) : ∃ its : List Value, Vals xs its ∧ PlainL s.heap a its.toArray ∧ xs.length ≤ sizeLine := by
  rcases h with h | ⟨o, its, n, hk, hc, hd, hs, hz, r⟩
  · obtain ⟨z, its, n, r, e⟩ := h.ok I.hok
    exact ⟨its, r, ⟨_, n, e, rfl, rfl, rfl⟩, z⟩
  · refine ⟨its.toList, r, ⟨o, n, I.kIn a o hk, hc, hd, by simpa using hs⟩, ?_⟩
    have e := r.length
    simp only [Array.length_toList] at e
    omega
theorem Inv.tuple (I : Inv X pins σ H s) (h : SqT X.K H a xs) : ∃ its : List Value, Vals xs its ∧ IsTup s.heap a its.toArray ∧ xs.length ≤ sizeLine := by
  rcases h with h | ⟨o, its, n, hk, hc, hs, hz, r⟩
  · obtain ⟨z, its, r, p⟩ := h.ok I.hok
    exact ⟨its, r, p, z⟩
  · refine ⟨its.toList, r, ⟨o, I.kIn a o hk, hc, n, by simpa using hs⟩, ?_⟩
    have e := r.length
    simp only [Array.length_toList] at e
    omega
theorem Inv.list_inj (I : Inv X pins σ H s) (h : SqL X.K H a xs) (h' : SqL X.K H a ys) : xs = ys := by
  obtain ⟨its, r, ⟨o, n, e, _, _, d⟩, _⟩ := I.list h
  obtain ⟨its', r', ⟨o', n', e', _, _, d'⟩, _⟩ := I.list h'
  rw [e] at e'; cases e'
  rw [d] at d'
  injection d' with d1 _
  have : its = its' := by simpa using congrArg Array.toList d1
  subst this
  exact r.inj r'
theorem Inv.tuple_inj (I : Inv X pins σ H s) (h : SqT X.K H a xs) (h' : SqT X.K H a ys) : xs = ys := by
  obtain ⟨its, r, ⟨o, e, _, n, d⟩, _⟩ := I.tuple h
  obtain ⟨its', r', ⟨o', e', _, n', d'⟩, _⟩ := I.tuple h'
  rw [e] at e'; cases e'
  rw [d] at d'
  injection d' with d1 _
  have : its = its' := by simpa using congrArg Array.toList d1
  subst this
  exact r.inj r'
end

/-! ### another wish about exceptions -/
abbrev Cx.wish (X : Cx) (E : Value → Shared → Prop) : Cx := { X with xe := E }
/-- no exception leaves -/
abbrev Cx.nox (X : Cx) : Cx := X.wish fun _ _ => False
theorem Cx.Ok.wish {X : Cx} (ok : X.Ok) (E : Value → Shared → Prop) : (X.wish E).Ok :=
  ⟨ok.mod, ok.kind, ok.glob, ok.blt, ok.above, ok.inj, ok.has, ok.cab, ok.hd, ok.frames, ok.stk, ok.exf, ok.bs, ok.bsz, ok.noex, ok.exfs, ok.funs, ok.frf⟩
theorem Cx.Ok.unwish {X : Cx} {E : Value → Shared → Prop} (ok : (X.wish E).Ok) : X.Ok :=
  ⟨ok.mod, ok.kind, ok.glob, ok.blt, ok.above, ok.inj, ok.has, ok.cab, ok.hd, ok.frames, ok.stk, ok.exf, ok.bs, ok.bsz, ok.noex, ok.exfs, ok.funs, ok.frf⟩
section
variable {X : Cx} {pins : List (Addr × Obj)} {σ : St} {H : Hp} {s : Shared} {E : Value → Shared → Prop}
theorem Inv.wish (I : Inv X pins σ H s) (E : Value → Shared → Prop) : Inv (X.wish E) pins σ H s := ⟨I.ok.wish E, I.os, I.bare, I.base, I.loc, I.cell, I.free, I.freeC, I.pin, I.hok, I.len⟩
theorem Inv.unwish (I : Inv (X.wish E) pins σ H s) : Inv X pins σ H s := ⟨I.ok.unwish, I.os, I.bare, I.base, I.loc, I.cell, I.free, I.freeC, I.pin, I.hok, I.len⟩
theorem SP.unwish {D : Ends} {f : Flow} {s' : Shared} (h : SP (X.wish E) pins D f s') : SP X pins D f s' := by
  cases f with
  | next => obtain ⟨σ', H', I, q⟩ := h; exact ⟨σ', H', I.unwish, q⟩
  | brk => obtain ⟨σ', H', I, q⟩ := h; exact ⟨σ', H', I.unwish, q⟩
  | cont => obtain ⟨σ', H', I, q⟩ := h; exact ⟨σ', H', I.unwish, q⟩
  | ret u => obtain ⟨v, σ', H', I, r, q⟩ := h; exact ⟨v, σ', H', I.unwish, r, q⟩
theorem PSs.nox {st : List Stmt} {t : TS} (h : PSs X.nox st t) : PSs X st t := fun pins s σ H D I hw =>
  wpAny_mono (h pins s σ H D (I.wish _) hw) (fun _ _ q => q.unwish) fun _ _ z => False.elim z
end

/-! ### blocks and small statements -/
section
variable {X : Cx} {st : Stmt} {rest : List Stmt} {t u : TS} {e : Expr} {te : TE} {pos : Pos}
def tNext : TS := fun D σ H => D.nx σ H
def tSeq (t u : TS) : TS := fun D σ H => t { D with nx := u D } σ H
theorem pss_nil : PSs X [] tNext := fun _ _ σ H _ I h => wpAny_execs_nil ⟨σ, H, I, h⟩
theorem pss_cons (h1 : PS X st t) (h2 : PSs X rest u) : PSs X (st :: rest) (tSeq t u) := by
  intro pins s σ H D I h
  refine wpAny_execs_cons (thn (h1 pins s σ H { D with nx := u D } I h) fun f s1 q => ?_)
  cases f with
  | next =>
    obtain ⟨σ', H', I', q⟩ := q
    exact h2 pins s1 σ' H' D I' q
  | ret v => exact q
  | brk => exact q
  | cont => exact q
theorem pss_one (h1 : PS X st t) : PSs X [st] t := by
  intro pins s σ H D I h
  refine wpAny_execs_cons (thn (h1 pins s σ H D I h) fun f s1 q => ?_)
  cases f with
  | next => exact wpAny_execs_nil q
  | ret v => exact q
  | brk => exact q
  | cont => exact q
/-- in a def's body nothing is shown -/
theorem Inv.quiet {pins : List (Addr × Obj)} {σ : St} {H : Hp} {s : Shared} (I : Inv X pins σ H s) : interactive X.env = false := by simp [interactive, I.ok.kind]
/-- an expression whose value is dropped -/
def tDrop (te : TE) : TS := fun D σ H => te σ H fun _ H1 => D.nx σ H1
theorem ps_expr (he : PE X e te) (hs : swapsWith e none pos.line X.env = pure false := by rfl) : PS X (.Expr e pos) (tDrop te) := by
  intro pins s σ H D I h
  exact wpAny_Expr_any (thn (he pins s σ H _ I h) fun v s1 ⟨x, H1, I1, r1, q1⟩ => ⟨σ, H1, I1, q1⟩) I.quiet hs
def tRet (te : TE) : TS := fun D σ H => te σ H D.rt
theorem ps_ret (he : PE X e te) : PS X (.Return (some e) pos) (tRet te) := by
  intro pins s σ H D I h
  exact wpAny_Return_some (thn (he pins s σ H _ I h) fun v s1 ⟨x, H1, I1, r1, q1⟩ => ⟨x, σ, H1, I1, r1, q1⟩)
def tIfS (c : TT) (t u : TS) : TS := fun D σ H => c σ H fun b H1 => if b = true then t D σ H1 else u D σ H1
theorem ps_if {c : Expr} {a b : List Stmt} {tc : TT} (hc : PT X c tc) (ha : PSs X a t) (hb : PSs X b u) : PS X (.If c a b pos) (tIfS tc t u) := by
  intro pins s σ H D I h
  refine wpAny_If (thn (hc pins s σ H _ I h) fun d s1 ⟨H1, I1, q1⟩ => ?_)
  cases d with
  | true => exact ha pins s1 σ H1 D I1 q1
  | false => exact hb pins s1 σ H1 D I1 q1
/-- code that the proof never comes to -/
def tNever : TS := fun _ _ _ => False
theorem ps_never : PS X st tNever := fun _ _ _ _ _ _ h => h.elim
end

/-! ### targets -/
abbrev TG := V → St → Hp → (St → Hp → Prop) → Prop
def PG (X : Cx) (target : Expr) (t : TG) : Prop :=
  ∀ (pins : List (Addr × Obj)) (s : Shared) (σ : St) (H : Hp) (v : V) (u : Value) (Q : St → Hp → Prop), Inv X pins σ H s → RelV v u → t v σ H Q →
    wpAny (model X.prog X.w) X.A (assign target X.env u) (fun _ s' => ∃ σ' H', Inv X pins σ' H' s' ∧ Q σ' H') X.xe s
/-- o[i] = v, by values -/
abbrev TSet := V → V → V → Hp → (Hp → Prop) → Prop
def PSet (X : Cx) (t : TSet) : Prop :=
  ∀ (pins : List (Addr × Obj)) (s : Shared) (σ : St) (H : Hp) (o i v : V) (ov iv u : Value) (Q : Hp → Prop), Inv X pins σ H s → RelV o ov → RelV i iv → RelV v u → t o i v H Q →
    wpAny (model X.prog X.w) X.A (setItem ov iv u) (fun _ s' => ∃ H', Inv X pins σ H' s' ∧ Q H') X.xe s
/-- a op= b, by values -/
abbrev TIp := V → V → Hp → VK → Prop
def PIp (X : Cx) (op : Operator) (t : TIp) : Prop :=
  ∀ (pins : List (Addr × Obj)) (s : Shared) (σ : St) (H : Hp) (x y : V) (v u : Value) (Q : VK), Inv X pins σ H s → RelV x v → RelV y u → t x y H Q →
    wpAny (model X.prog X.w) X.A (inplaceOp op v u) (EP X pins σ Q) X.xe s
section
variable {X : Cx} {pos : Pos}
def gName (i : Nat) : TG := fun v σ H Q => Q (σ.set i (some v)) H
theorem pg_name {i : Nat} {x : Str} (hN : X.N.Nodup) (hi : X.N[i]? = some x) (hx : Loc X.env.scope x) (hf : X.fn x = true ∨ X.env.scope.names.lookup x = some .local := by first | exact .inl rfl | exact .inr rfl | assumption) : PG X (.Name x pos) (gName i) := by
  intro pins s σ H v u Q I r h
  exact wpAny_assign_Name (store_ok I hN hi hx r (fun s' I' => ⟨_, H, I', h⟩) hf)
/-- o[i] = .. -/
def gSub (to ti : TE) (t : TSet) : TG := fun v σ H Q => to σ H fun o H1 => ti σ H1 fun i H2 => t o i v H2 fun H3 => Q σ H3
theorem pg_sub {o i : Expr} {to ti : TE} {t : TSet} (ho : PE X o to) (hi : PE X i ti) (hs : PSet X t)
    (ha : ∀ v, assign (.Subscript o i pos) X.env v = (do
      let ov ← holding [v] (eval o X.env)
      let iv ← holding [v, ov] (eval i X.env)
      standAt pos
      holding [v, ov, iv] (setItem ov iv v)
      release [v, ov, iv] []) := by intro _; rfl) : PG X (.Subscript o i pos) (gSub to ti t) := by
  intro pins s σ H v u Q I r h
  rw [ha]
  refine wpAny_bind (wpAny_holding (thn (ho pins s σ H _ I h) fun ov s1 ⟨x, H1, I1, r1, q1⟩ => ?_))
  refine wpAny_bind (wpAny_holding (thn (hi pins s1 σ H1 _ I1 q1) fun iv s2 ⟨y, H2, I2, r2, q2⟩ => ?_))
  refine wpAny_bind (wpAny_standAt (wpAny_bind (wpAny_holding (thn (hs pins s2 σ H2 x y v ov iv u _ I2 r1 r2 r q2) fun _ s3 ⟨H3, I3, q3⟩ => ?_))))
  exact wpAny_release ⟨σ, H3, I3, q3⟩
/-- target = value -/
def tAsg (te : TE) (g : TG) : TS := fun D σ H => te σ H fun x H1 => g x σ H1 D.nx
theorem ps_asg {tg e : Expr} {te : TE} {g : TG} (he : PE X e te) (hg : PG X tg g) (hs : swapsWithSole [tg] e pos.line X.env = pure false := by rfl) (hw : swappedStores [tg] e X.env = pure none := by rfl)
    (h1 : (assignEach [tg] X.env).map (·.2) = [assign tg X.env] := by rfl) : PS X (.Assign [tg] e pos) (tAsg te g) := by
  intro pins s σ H D I h
  refine wpAny_Assign_stores (thn (he pins s σ H _ I h) fun v s1 ⟨x, H1, I1, r1, q1⟩ => ?_) hs hw
  rw [h1]
  exact thn (hg pins s1 σ H1 x v _ I1 r1 q1) fun _ s2 q => q
/-- name = value -/
theorem ps_set {i : Nat} {x : Str} {e : Expr} {te : TE} {pos' : Pos} (hN : X.N.Nodup) (hi : X.N[i]? = some x) (hx : Loc X.env.scope x) (he : PE X e te) (hs : swapsWith e (some (.Name x pos')) pos.line X.env = pure false := by rfl) (hf : X.fn x = true ∨ X.env.scope.names.lookup x = some .local := by first | exact .inl rfl | exact .inr rfl | assumption) :
    PS X (.Assign [.Name x pos'] e pos) (tAsg te (gName i)) := by
  intro pins s σ H D I h
  refine wpAny_Assign_Name (thn (he pins s σ H _ I h) fun v s1 ⟨y, H1, I1, r1, q1⟩ => ?_) hs
  exact store_ok I1 hN hi hx r1 (fun s2 I2 => ⟨_, H1, I2, q1⟩) hf
/-- a, b = x, y with plain local names: stored from the right; the pair itself is not tracked (the opening rows as in PyProof/Rows/TupAssign.lean:23) -/
def tPar (i j : Nat) (ta : TA) : TS := fun D σ H => ta σ H fun vs H1 => ∃ v w, vs = [v, w] ∧ D.nx ((σ.set i (some v)).set j (some w)) H1
theorem ps_par {i j : Nat} {x y : Str} {a b : Expr} {ta : TA} {px py pt : Pos} {kt k2 pt2} (hc : X.calm = true) (hN : X.N.Nodup) (hi : X.N[i]? = some x) (hj : X.N[j]? = some y) (hij : i ≠ j)
    (hx : X.env.scope.names.lookup x = some .local) (hy : X.env.scope.names.lookup y = some .local) (ha : PA X [a, b] ta)
    (hw : swappedStores [.Tuple [.Name x px, .Name y py] kt pt] (.Tuple [a, b] k2 pt2) X.env = pure (some [x, y]))
    (hs : swapsWithSole [.Tuple [.Name x px, .Name y py] kt pt] (.Tuple [a, b] k2 pt2) pos.line X.env = pure false := by rfl) :
    PS X (.Assign [.Tuple [.Name x px, .Name y py] kt pt] (.Tuple [a, b] k2 pt2) pos) (tPar i j ta) := by
  intro pins s σ H D I h
  rw [exec_Assign_arm]
  refine wpAny_bind (wpAny_standAt ?_)
  rw [hs]
  refine wpAny_bind (wpAny_pure ?_)
  rw [if_neg (by decide)]
  refine wpAny_bind (Tuple_ (thn (ha _ pins s σ H _ I h) fun us s1 ⟨vs, H1, I1, r1, q1⟩ => ?_))
  obtain ⟨v, w, e1, q1⟩ := q1
  subst e1
  obtain ⟨u1, u2, rfl, rv, rw'⟩ : ∃ u1 u2, us = [u1, u2] ∧ RelV v u1 ∧ RelV w u2 := by
    cases r1 with
    | cons p q =>
      cases q with
      | cons p' q' =>
        cases q'
        exact ⟨_, _, rfl, p, p'⟩
  refine wpAny_newObj_type ?_ (by show 2 ≤ sizeLine; decide)
  have I2 : Inv X pins σ H1 { s1 with heap := s1.heap.push { cls := .type "tuple", data := .seq [u1, u2].toArray } } := I1.kept (t' := s1.toks) fun b o e => Heap.get?_push_of_some _ e
  rw [hw]
  refine wpAny_bind (wpAny_pure ?_)
  show wpAny (model X.prog X.w) X.A (do rule "assign.swapped-stores"; let items ← unpackItems (.ref s1.heap.objs.size) 2 none; assignInOrder [fun v => bindName X.env y v, fun v => bindName X.env x v] items.reverse; pure Flow.next) _ _ _
  refine wpAny_bind (wpAny_rule (wpAny_bind (unpackItems_tuple (items := #[u1, u2]) (I.ok.hd hc) (IsTup.new s1.heap _) fun h' hx' => ?_)))
  have I3 := I2.kept (h' := h') (t' := s1.toks) fun b o e => hx' b o (Nat.ne_of_lt (Heap.lt_size e)) e
  show wpAny _ _ (assignInOrder [fun v => bindName X.env y v, fun v => bindName X.env x v] [u2, u1] >>= fun _ => pure Flow.next) _ _ _
  refine wpAny_bind (assignInOrder_cons (wpAny_bindName (store_ok I3 hN hj (.inl hy) rw' (fun s2 I4 => ?_) (.inr hy))))
  refine assignInOrder_cons (wpAny_bindName (store_ok I4 hN hi (.inl hx) rv (fun s3 I5 => assignInOrder_nil (wpAny_pure ?_)) (.inr hx)))
  rw [List.set_comm _ _ (Ne.symm hij)] at I5
  exact ⟨_, H1, I5, q1⟩
/-- o[i] op= e -/
def tAugS (to ti te : TE) (tget : V → V → Hp → VK → Prop) (tip : TIp) (tset : TSet) : TS := fun D σ H => to σ H fun o H1 => ti σ H1 fun i H2 => tget o i H2 fun x H3 => te σ H3 fun y H4 => tip x y H4 fun z H5 => tset o i z H5 fun H6 => D.nx σ H6
/-- o[i], by values -/
def PGet (X : Cx) (t : V → V → Hp → VK → Prop) : Prop :=
  ∀ (pins : List (Addr × Obj)) (s : Shared) (σ : St) (H : Hp) (o i : V) (ov iv : Value) (Q : VK), Inv X pins σ H s → RelV o ov → RelV i iv → t o i H Q →
    wpAny (model X.prog X.w) X.A (getItem ov iv) (EP X pins σ Q) X.xe s
theorem ps_augS {o i e : Expr} {to ti te : TE} {tget : V → V → Hp → VK → Prop} {tip : TIp} {tset : TSet} {op : Operator} {tpos : Pos} (ho : PE X o to) (hi : PE X i ti) (hg : PGet X tget) (he : PE X e te) (hp : PIp X op tip) (hs : PSet X tset)
    (ha : ∀ ov iv new, augStore i ov iv new = (do holding [new, ov, iv] (setItem ov iv new); release [new, ov, iv] []; pure .next) := by intros; rfl) : PS X (.AugAssign (.Subscript o i tpos) op e pos) (tAugS to ti te tget tip tset) := by
  intro pins s σ H D I h
  refine wpAny_AugAssign_SubscriptAny (thn (ho pins s σ H _ I h) fun ov s1 ⟨x1, H1, I1, r1, q1⟩ => ?_) ha
  refine thn (hi pins s1 σ H1 _ I1 q1) fun iv s2 ⟨x2, H2, I2, r2, q2⟩ => ?_
  refine thn (hg pins s2 σ H2 x1 x2 ov iv _ I2 r1 r2 q2) fun old s3 ⟨x3, H3, I3, r3, q3⟩ => ?_
  refine thn (he pins s3 σ H3 _ I3 q3) fun v s4 ⟨x4, H4, I4, r4, q4⟩ => ?_
  refine thn (hp pins s4 σ H4 x3 x4 old v _ I4 r3 r4 q4) fun new s5 ⟨x5, H5, I5, r5, q5⟩ => ?_
  exact thn (hs pins s5 σ H5 x1 x2 x5 ov iv new _ I5 r1 r2 r5 q5) fun _ s6 ⟨H6, I6, q6⟩ => ⟨σ, H6, I6, q6⟩
/-- ints -/
def ipI (f : Int → Int → Int) : TIp := fun x y H Q => ∃ i j, x = .int i ∧ y = .int j ∧ Q (.int (f i j)) H
theorem ip_add : PIp X .Add (ipI fun i j => i + j) := by
  intro pins s σ H x y v u Q I r1 r2 h
  obtain ⟨i, j, e1, e2, q⟩ := h
  subst e1; subst e2
  obtain ⟨t, rfl⟩ := r1
  obtain ⟨t', rfl⟩ := r2
  exact iadd_int ⟨.int _, H, I.tok _, ⟨_, rfl⟩, q⟩
theorem ip_sub : PIp X .Sub (ipI fun i j => i - j) := by
  intro pins s σ H x y v u Q I r1 r2 h
  obtain ⟨i, j, e1, e2, q⟩ := h
  subst e1; subst e2
  obtain ⟨t, rfl⟩ := r1
  obtain ⟨t', rfl⟩ := r2
  exact isub_int ⟨.int _, H, I.tok _, ⟨_, rfl⟩, q⟩
end

/-! ### while -/
section
variable {X : Cx} {pos : Pos}
/-- the invariant W with its measure -/
def tWhile (c : TT) (tb : TS) : TS := fun D σ H => ∃ W : Nat → St → Hp → Prop, (∃ m, W m σ H) ∧ ∀ m σ H, W m σ H →
  c σ H fun b H1 => if b = true then ∃ N : St → Hp → Prop, (∀ σ' H', N σ' H' → ∃ m', m' < m ∧ W m' σ' H') ∧ tb { D with nx := N, ct := N, bk := D.nx } σ H1 else D.nx σ H1
theorem ps_while {c : Expr} {body : List Stmt} {tc : TT} {tb : TS} (hp : PassesOwn (model X.prog X.w) X.A X.env X.xe) (hc : PT X c tc) (hb : PSs X body tb) : PS X (.While c body [] pos) (tWhile tc tb) := by
  intro pins s σ H D I h
  obtain ⟨W, ⟨m0, w0⟩, turn⟩ := h
  refine wpAny_While (codeAny_whileLoop (fun n s' => ∃ σ' H', Inv X pins σ' H' s' ∧ W n σ' H') ?_ m0 ⟨σ, H, I, w0⟩)
  rintro n s1 ⟨σ1, H1, I1, w1⟩
  refine wpAny_passesOwn hp (thn (hc pins s1 σ1 H1 _ I1 (turn n σ1 H1 w1)) fun b s2 ⟨H2, I2, q2⟩ => ?_)
  cases b with
  | true =>
    obtain ⟨N, hN, q2⟩ := q2
    rw [if_pos rfl]
    refine wpAny_passesOwn hp (thn (hb pins s2 σ1 H2 _ I2 q2) fun f s3 q3 => ?_)
    cases f with
    | next =>
      obtain ⟨σ3, H3, I3, n3⟩ := q3
      obtain ⟨m', hm, w3⟩ := hN σ3 H3 n3
      exact ⟨m', hm, σ3, H3, I3, w3⟩
    | cont =>
      obtain ⟨σ3, H3, I3, n3⟩ := q3
      obtain ⟨m', hm, w3⟩ := hN σ3 H3 n3
      exact ⟨m', hm, σ3, H3, I3, w3⟩
    | brk => exact q3
    | ret v => exact q3
  | false =>
    rw [if_neg Bool.false_ne_true]
    exact wpAny_execs_nil ⟨σ1, H2, I2, q2⟩
end

/-! ### what a loop or a comprehension walks -/
/-- at turn i: it yields x (the heap may grow), or it stops -/
structure It where
  go : Nat → Hp → Prop
  yld : Nat → Hp → V → Hp → Prop
  stop : Nat → Hp → Prop
/-- the iterator's own objects may turn: they are not the frame's, not pinned, younger than the entry (or a comprehension's own) -/
def FpOk (X : Cx) (pins : List (Addr × Obj)) (H : Hp) (b : Addr) : Prop :=
  H b = none ∧ b ≠ X.env.locals ∧ b ∉ X.fs ∧ (b ∈ X.ex ∨ X.s₀.heap.objs.size ≤ b) ∧ (∀ x c, X.env.cells.lookup x = some c → c ≠ b) ∧ ∀ p ∈ X.pn ++ pins, p.1 ≠ b
theorem Inv.fpOk {X : Cx} {pins : List (Addr × Obj)} {σ : St} {H H' : Hp} {s : Shared} {b : Addr} (I : Inv X pins σ H s) (hb : s.heap.objs.size ≤ b) (hn : H' b = none) : FpOk X pins H' b := by
  refine ⟨hn, Nat.ne_of_gt (Nat.lt_of_lt_of_le I.lt hb), I.nofs hb, .inr (Nat.le_trans I.sz hb), fun x c e z => ?_, fun p hp z => ?_⟩
  · obtain ⟨v, q⟩ := I.cell x c e
    exact absurd (Nat.lt_of_lt_of_le q.lt (by rw [z]; exact hb)) (Nat.lt_irrefl _)
  · exact absurd (Nat.lt_of_lt_of_le (Heap.lt_size (I.pin p hp).1) (by rw [z]; exact hb)) (Nat.lt_irrefl _)
structure Turn (P : Program) (w : World) (K : PySem.W.Frag) (tg : Expr) (J : It) (fp : List Addr) (it : Addr) (tn : Nat → Heap → Prop) : Prop where
  mem : it ∈ fp
  obj : ∀ i h, tn i h → ∀ b ∈ fp, ∃ o, h.get? b = some o ∧ ∀ v, o.data ≠ .cell v
  keep : ∀ i h h', tn i h → (∀ b ∈ fp, ∀ o, h.get? b = some o → h'.get? b = some o) → tn i h'
  item : ∀ (X : Cx), X.prog = P → X.w = w → X.K = K → X.calm = true → ∀ (i : Nat) (pins : List (Addr × Obj)) (s : Shared) (σ : St) (H : Hp) (E : Value → Shared → Prop), Inv X pins σ H s → (∀ b ∈ fp, FpOk X pins H b) → tn i s.heap → J.go i H →
    wpAny (model P w) X.A (pyNext (.ref it)) (fun r s1 => ∃ u, r = some u ∧
      wpAny (model P w) X.A (letOwnedTupleGo tg (.ref it) u) (fun _ s2 => ∃ x H', Inv X pins σ H' s2 ∧ RelV x u ∧ J.yld i H x H' ∧ tn (i + 1) s2.heap ∧ ∀ b ∈ fp, H' b = none) E s1) E s
  done : ∀ (X : Cx), X.prog = P → X.w = w → X.K = K → X.calm = true → ∀ (i : Nat) (pins : List (Addr × Obj)) (s : Shared) (σ : St) (H : Hp) (E : Value → Shared → Prop), Inv X pins σ H s → (∀ b ∈ fp, FpOk X pins H b) → tn i s.heap → J.stop i H →
    wpAny (model P w) X.A (pyNext (.ref it)) (fun r s1 => r = none ∧ Inv X pins σ H s1) E s
  self : ∀ (A : Around) (i : Nat) (s : Shared) (Q : Value → Shared → Prop) (E : Value → Shared → Prop), tn i s.heap → Q (.ref it) s → wpAny (model P w) A (pyIter (.ref it)) Q E s
abbrev TI := St → Hp → (It → Hp → Prop) → Prop
/-- an iterator has come -/
def PIE (X : Cx) (pins : List (Addr × Obj)) (σ : St) (tg : Expr) (R : It → Hp → Prop) (itv : Value) (s2 : Shared) : Prop :=
  ∃ (it : Addr) (fp : List Addr) (tn : Nat → Heap → Prop) (J : It) (H' : Hp), itv = .ref it ∧ Inv X pins σ H' s2 ∧ Turn X.prog X.w X.K tg J fp it tn ∧ tn 0 s2.heap ∧ (∀ b ∈ fp, FpOk X pins H' b) ∧ R J H'
def PI (X : Cx) (tg iter : Expr) (wi : TI) : Prop :=
  ∀ (pins : List (Addr × Obj)) (s : Shared) (σ : St) (H : Hp) (R : It → Hp → Prop), Inv X pins σ H s → wi σ H R →
    wpAny (model X.prog X.w) X.A (eval iter X.env) (fun v s1 => wpAny (model X.prog X.w) X.A (pyIter v) (PIE X pins σ tg R) X.xe s1) X.xe s

/-- the step ahead of the store is nothing for an iterator that keeps no tuple -/
theorem go_of {M : Model} {A : Around} {E : Value → Shared → Prop} {s : Shared} {tg : Expr} {it : Addr} {u : Value} {o : Obj} {n : String} {vs : Array Value} {Q : Unit → Shared → Prop} (ho : s.heap.get? it = some o) (hc : o.cls = .type n) (hd : o.data = .fields vs)
    (hn : ["enumerate", "zip", "dict_itemiterator", "dict_reverseitemiterator", "odict_iterator", "itertools.zip_longest", "itertools.pairwise"].contains n = false) (hQ : Q () s) : wpAny M A (letOwnedTupleGo tg (.ref it) u) Q E s := by
  unfold letOwnedTupleGo
  cases tg <;> first
    | exact wpAny_pure hQ
    | (cases u <;> first
        | exact wpAny_pure hQ
        | (refine wpAny_bind (wpAny_load ho ?_)
           rw [hc, hd]
           show wpAny M A (if (["enumerate", "zip", "dict_itemiterator", "dict_reverseitemiterator", "odict_iterator", "itertools.zip_longest", "itertools.pairwise"].contains n && vs[0]? == some (rawInt _)) = true then _ else _) Q E s
           rw [if_neg (by intro h; rw [hn, Bool.false_and] at h; cases h)]
           exact wpAny_pure hQ))

/-- the list at a, as it stands at each turn (a loop may append to it) -/
def Itl (K : PySem.W.Frag) (a : Addr) : It :=
  ⟨fun i H => ∃ xs x, SqL K H a xs ∧ xs[i]? = some x, fun i H x H' => H' = H ∧ ∀ xs, SqL K H a xs → xs[i]? = some x, fun i H => ∃ xs, SqL K H a xs ∧ xs.length ≤ i⟩
def Itt (K : PySem.W.Frag) (a : Addr) : It :=
  ⟨fun i H => ∃ xs x, SqT K H a xs ∧ xs[i]? = some x, fun i H x H' => H' = H ∧ ∀ xs, SqT K H a xs → xs[i]? = some x, fun i H => ∃ xs, SqT K H a xs ∧ xs.length ≤ i⟩
/-- lo, lo + 1, .. (n of them) -/
def Itr (lo : Int) (n : Nat) : It := ⟨fun i _ => i < n, fun i H x H' => H' = H ∧ x = .int (lo + i), fun i _ => n ≤ i⟩
theorem turn_list {P : Program} {w : World} {K : PySem.W.Frag} {tg : Expr} (a it : Addr) : Turn P w K tg (Itl K a) [it] it (fun i h => h.IsListIter it a i) where
  mem := by simp
  obj := fun i h st b hb => by
    have e : b = it := by simpa using hb
    subst e
    obtain ⟨o, e, c, d⟩ := st
    exact ⟨o, e, fun v z => by rw [d] at z; cases z⟩
  keep := fun i h h' st k => st.at fun o e => k it (by simp) o e
  item := by
    intro X hP hw hK hc i pins s σ H E I hf st hg
    subst hP hw hK
    obtain ⟨xs, x, hq, hx⟩ := hg
    obtain ⟨its, rv, p, hz⟩ := I.list hq
    obtain ⟨u, hu, ru⟩ := rv.get hx
    obtain ⟨f0, f1, f2, f3, f4, f5⟩ := hf it (by simp)
    refine wpAny_pyNext_list_item st p.isList (x := u) (by simpa using hu) fun h' st' sb => ?_
    have I1 : Inv X pins σ H { s with heap := h' } := I.turned (t' := s.toks) (fun b o hb e => (sb.2 b hb).trans e) f0 f1 f3 f4 f5
    obtain ⟨o, e, c, d⟩ := id st'
    exact ⟨u, rfl, go_of (s := { s with heap := h' }) e c d (by decide) ⟨x, H, I1, ru, ⟨rfl, fun ys hy => by rw [I.list_inj hy hq]; exact hx⟩, st', fun b hb => (hf b hb).1⟩⟩
  done := by
    intro X hP hw hK hc i pins s σ H E I hf st hg
    subst hP hw hK
    obtain ⟨xs, hq, hx⟩ := hg
    obtain ⟨its, rv, p, hz⟩ := I.list hq
    obtain ⟨f0, f1, f2, f3, f4, f5⟩ := hf it (by simp)
    have hl := rv.length
    exact wpAny_pyNext_list_end (I.ok.hd hc) st p.isList (by simp; omega) fun h' eb => ⟨rfl, I.turned (t' := s.toks) (fun b o hb e => eb b o hb e) f0 f1 f3 f4 f5⟩
  self := fun _ _ _ _ _ st h => wpAny_pyIter_listiter st h
theorem turn_tuple {P : Program} {w : World} {K : PySem.W.Frag} {tg : Expr} (a it : Addr) : Turn P w K tg (Itt K a) [it] it (fun i h => h.IsTupleIter it a i) where
  mem := by simp
  obj := fun i h st b hb => by
    have e : b = it := by simpa using hb
    subst e
    obtain ⟨o, e, c, d⟩ := st
    exact ⟨o, e, fun v z => by rw [d] at z; cases z⟩
  keep := fun i h h' st k => st.at fun o e => k it (by simp) o e
  item := by
    intro X hP hw hK hc i pins s σ H E I hf st hg
    subst hP hw hK
    obtain ⟨xs, x, hq, hx⟩ := hg
    obtain ⟨its, rv, p, hz⟩ := I.tuple hq
    obtain ⟨u, hu, ru⟩ := rv.get hx
    obtain ⟨f0, f1, f2, f3, f4, f5⟩ := hf it (by simp)
    refine wpAny_pyNext_tuple_item st (show s.heap.IsTuple a its.toArray from p) (x := u) (by simpa using hu) fun h' st' sb => ?_
    have I1 : Inv X pins σ H { s with heap := h' } := I.turned (t' := s.toks) (fun b o hb e => (sb.2 b hb).trans e) f0 f1 f3 f4 f5
    obtain ⟨o, e, c, d⟩ := id st'
    exact ⟨u, rfl, go_of (s := { s with heap := h' }) e c d (by decide) ⟨x, H, I1, ru, ⟨rfl, fun ys hy => by rw [I.tuple_inj hy hq]; exact hx⟩, st', fun b hb => (hf b hb).1⟩⟩
  done := by
    intro X hP hw hK hc i pins s σ H E I hf st hg
    subst hP hw hK
    obtain ⟨xs, hq, hx⟩ := hg
    obtain ⟨its, rv, p, hz⟩ := I.tuple hq
    obtain ⟨f0, f1, f2, f3, f4, f5⟩ := hf it (by simp)
    have hl := rv.length
    exact wpAny_pyNext_tuple_end (I.ok.hd hc) st (show s.heap.IsTuple a its.toArray from p) (by simp; omega) fun h' eb => ⟨rfl, I.turned (t' := s.toks) (fun b o hb e => eb b o hb e) f0 f1 f3 f4 f5⟩
  self := fun _ _ _ _ _ st h => wpAny_pyIter_tupleiter st h
theorem turn_range {P : Program} {w : World} {K : PySem.W.Frag} {tg : Expr} (it : Addr) (lo : Int) (n : Nat) : Turn P w K tg (Itr lo n) [it] it (fun i h => IsRangeIter h it (lo + (i : Nat) * 1) ((n : Int) - (i : Nat)) 1) where
  mem := by simp
  obj := fun i h st b hb => by
    have e : b = it := by simpa using hb
    subst e
    exact ⟨_, st, fun v z => by
      have z' : Data.fields _ = Data.cell v := z
      cases z'⟩
  keep := fun i h h' st k => k it (by simp) _ st
  item := by
    intro X hP hw hK hc i pins s σ H E I hf st hg
    subst hP hw hK
    obtain ⟨f0, f1, f2, f3, f4, f5⟩ := hf it (by simp)
    have W := Walks.range (prog := X.prog) (w := X.w) (I.ok.hd hc) it lo 1 n
    refine W.item i s _ _ hg st fun v h' tk hv st' kk => ?_
    obtain ⟨t, rfl⟩ := hv
    have I1 : Inv X pins σ H { s with heap := h', toks := tk } := I.turned (fun b o hb e => kk b o (by simpa using hb) e) f0 f1 f3 f4 f5
    refine ⟨_, rfl, go_of (s := { s with heap := h', toks := tk }) (n := "range_iterator") st' rfl rfl (by decide) ⟨.int (lo + i), H, I1, ⟨t, ?_⟩, ⟨rfl, rfl⟩, st', fun b hb => (hf b hb).1⟩⟩
    rw [Int.mul_one]
  done := by
    intro X hP hw hK hc i pins s σ H E I hf st hg
    subst hP hw hK
    obtain ⟨f0, f1, f2, f3, f4, f5⟩ := hf it (by simp)
    exact wpAny_pyNext_range_end (I.ok.hd hc) st (by have : n ≤ i := hg; omega) fun h' eb => ⟨rfl, I.turned (t' := s.toks) (fun b o hb e => eb b o hb e) f0 f1 f3 f4 f5⟩
  self := fun _ _ _ _ _ st h => wpAny_pyIter_rangeiter st h
end L2

namespace L2
open PySem PySem.Spec PyProof.Rows
section
variable {X : Cx} {tg : Expr}
def iList (K : PySem.W.Frag) (tl : TE) : TI := fun σ H R => tl σ H fun x H1 => ∃ a, x = .ref a ∧ (∃ xs, SqL K H1 a xs) ∧ R (Itl K a) H1
def iTup (K : PySem.W.Frag) (tl : TE) : TI := fun σ H R => tl σ H fun x H1 => ∃ a, x = .ref a ∧ (∃ xs, SqT K H1 a xs) ∧ R (Itt K a) H1
theorem pi_list {l : Expr} {tl : TE} (hl : PE X l tl) : PI X tg l (iList X.K tl) := by
  intro pins s σ H R I h
  refine thn (hl pins s σ H _ I h) fun v s1 ⟨x, H1, I1, r1, q1⟩ => ?_
  obtain ⟨a, e, ⟨xs, hq⟩, q⟩ := q1
  subst e
  cases r1
  obtain ⟨its, rv, p, hz⟩ := I1.list hq
  refine wpAny_pyIter_list p.isList ?_
  refine ⟨s1.heap.objs.size, [s1.heap.objs.size], _, _, H1, rfl, I1.kept (t' := s1.toks) fun b o e => Heap.get?_push_of_some _ e, turn_list a _, ⟨_, Heap.get?_push_size _ rfl, rfl, rfl⟩, fun b hb => ?_, q⟩
  have e : b = s1.heap.objs.size := by simpa using hb
  subst e
  exact I1.fpOk (Nat.le_refl _) (I1.hok.fresh (Nat.le_refl _))
theorem pi_tup {l : Expr} {tl : TE} (hl : PE X l tl) : PI X tg l (iTup X.K tl) := by
  intro pins s σ H R I h
  refine thn (hl pins s σ H _ I h) fun v s1 ⟨x, H1, I1, r1, q1⟩ => ?_
  obtain ⟨a, e, ⟨xs, hq⟩, q⟩ := q1
  subst e
  cases r1
  obtain ⟨its, rv, p, hz⟩ := I1.tuple hq
  refine wpAny_pyIter_tuple (show s1.heap.IsTuple a its.toArray from p) ?_
  refine ⟨s1.heap.objs.size, [s1.heap.objs.size], _, _, H1, rfl, I1.kept (t' := s1.toks) fun b o e => Heap.get?_push_of_some _ e, turn_tuple a _, ⟨_, Heap.get?_push_size _ rfl, rfl, rfl⟩, fun b hb => ?_, q⟩
  have e : b = s1.heap.objs.size := by simpa using hb
  subst e
  exact I1.fpOk (Nat.le_refl _) (I1.hok.fresh (Nat.le_refl _))
/-- a range object just made, walked -/
theorem range_it {pins : List (Addr × Obj)} {σ : St} {H : Hp} {s : Shared} {R : It → Hp → Prop} {E : Value → Shared → Prop} {lo hi : Int} {t u v : Tok} {tk : Nat} (I : Inv X pins σ H s) (h1 : -(2 ^ 62) ≤ lo) (h2 : lo < 2 ^ 62) (h3 : -(2 ^ 62) ≤ hi) (h4 : hi < 2 ^ 62)
    (q : R (Itr lo (hi - lo).toNat) H) : wpAny (model X.prog X.w) X.A (pyIter (.ref s.heap.objs.size)) (PIE X pins σ tg R) E { s with heap := s.heap.push { cls := .type "range", data := .fields #[.int lo t, .int hi u, .int 1 v] }, toks := tk } := by
  refine wpAny_pyIter_range (IsRange.new ..) (small_one h1 h2 h3 h4) ?_
  have I1 : Inv X pins σ H { s with heap := s.heap.push { cls := .type "range", data := .fields #[.int lo t, .int hi u, .int 1 v] }, toks := tk } := I.kept fun b o e => Heap.get?_push_of_some _ e
  refine ⟨(s.heap.push { cls := .type "range", data := .fields #[.int lo t, .int hi u, .int 1 v] }).objs.size, [(s.heap.push { cls := .type "range", data := .fields #[.int lo t, .int hi u, .int 1 v] }).objs.size], _, _, H, rfl,
    I1.kept (t' := tk) fun b o e => Heap.get?_push_of_some _ e, turn_range _ lo (hi - lo).toNat, ?_, fun b hb => ?_, q⟩
  · have e1 : lo + ((0 : Nat) : Int) * 1 = lo := by simp
    have e2 : (((hi - lo).toNat : Nat) : Int) - ((0 : Nat) : Int) = Builtin.Range.rangeSize lo hi 1 := by rw [rangeSize_one]; split <;> omega
    show IsRangeIter _ _ (lo + ((0 : Nat) : Int) * 1) ((((hi - lo).toNat : Nat) : Int) - ((0 : Nat) : Int)) 1
    rw [e1, e2]
    exact Heap.get?_push_size _ rfl
  · have e : b = (s.heap.push { cls := .type "range", data := .fields #[.int lo t, .int hi u, .int 1 v] }).objs.size := by simpa using hb
    subst e
    exact I1.fpOk (Nat.le_refl _) (I1.hok.fresh (Nat.le_refl _))
def iRng1 (ta : TA) : TI := fun σ H R => ta σ H fun vs H1 => ∃ j : Int, vs = [.int j] ∧ -(2 ^ 62) ≤ j ∧ j < 2 ^ 62 ∧ R (Itr 0 j.toNat) H1
theorem pi_range1 {a : Expr} {ta : TA} {p pos : Pos} (hg : Gl X "range") (hm : X.mg "range" = none) (ha : PA X [a] ta) (hs : starEach [a] X.env = [(false, eval a X.env)] := by rfl) : PI X tg (.Call (.Name "range" p) [a] [] pos) (iRng1 ta) := by
  intro pins s σ H R I h
  refine Call_ (ld_blt I hg hm boot_range (PyProof.Rows.callWith_type1 (thn (ha pos pins s σ H _ I h) fun us s1 ⟨vs, H1, I1, r1, q1⟩ => ?_) hs rfl))
  obtain ⟨j, e, q1, q2, q⟩ := q1
  subst e
  cases r1 with
  | cons r rr =>
    cases rr
    obtain ⟨t, rfl⟩ := r
    exact call_range_1 (range_it I1 (by omega) (by omega) q1 q2 (by simpa using q))

/-! ### for -/
/-- W: the invariant by the turn and a measure; N: what the body is to reach -/
def tFor (wi : TI) (g : TG) (tb : TS) : TS := fun D σ H => wi σ H fun J H1 => ∃ W : Nat → Nat → St → Hp → Prop, (∃ m, W 0 m σ H1) ∧ ∀ i m σ H, W i m σ H →
  (J.stop i H ∧ D.nx σ H) ∨ (J.go i H ∧ ∃ N : St → Hp → Prop, (∀ σ' H', N σ' H' → ∃ m', m' < m ∧ W (i + 1) m' σ' H') ∧ ∀ x H', J.yld i H x H' → g x σ H' fun σ2 H2 => tb { D with nx := N, ct := N, bk := D.nx } σ2 H2)
/-- the records at fp as they stand -/
def pinsAt (fp : List Addr) (h : Heap) : List (Addr × Obj) := fp.filterMap fun b => (h.get? b).map fun o => (b, o)
theorem mem_pinsAt {fp : List Addr} {h : Heap} {b : Addr} {o : Obj} (hb : b ∈ fp) (e : h.get? b = some o) : (b, o) ∈ pinsAt fp h := List.mem_filterMap.mpr ⟨b, hb, by rw [e]; rfl⟩
theorem of_pinsAt {fp : List Addr} {h : Heap} {p : Addr × Obj} (hp : p ∈ pinsAt fp h) : p.1 ∈ fp ∧ h.get? p.1 = some p.2 := by
  obtain ⟨b, hb, e⟩ := List.mem_filterMap.mp hp
  cases q : h.get? b with
  | none => rw [q] at e; cases e
  | some o =>
    rw [q] at e
    have e' : (b, o) = p := Option.some.inj e
    subst e'
    exact ⟨hb, q⟩
theorem Inv.pinned {pins : List (Addr × Obj)} {σ : St} {H : Hp} {s : Shared} {fp : List Addr} (I : Inv X pins σ H s) (hf : ∀ b ∈ fp, FpOk X pins H b) (ho : ∀ b ∈ fp, ∃ o, s.heap.get? b = some o ∧ ∀ v, o.data ≠ .cell v) : Inv X (pins ++ pinsAt fp s.heap) σ H s :=
  I.pins_of fun p hp => (List.mem_append.mp hp).elim (fun z => I.pin p (List.mem_append_right _ z)) fun z => by
    obtain ⟨hb, e⟩ := of_pinsAt z
    obtain ⟨f0, f1, f2, _⟩ := hf p.1 hb
    obtain ⟨o, e', d⟩ := ho p.1 hb
    rw [e] at e'; cases e'
    exact ⟨e, f0, f1, f2, d⟩
theorem Inv.unpinned {pins pl : List (Addr × Obj)} {σ : St} {H : Hp} {s : Shared} (I : Inv X (pins ++ pl) σ H s) : Inv X pins σ H s := I.pins_of fun p hp => I.pin p (List.mem_append_right _ (List.mem_append_left _ hp))
theorem ps_for {iter : Expr} {body : List Stmt} {wi : TI} {g : TG} {tb : TS} {pos : Pos} (hp : PassesOwn (model X.prog X.w) X.A X.env X.xe) (hc : X.calm = true) (hi : PI X tg iter wi) (hg : PG X tg g) (hb : PSs X body tb)
    (hs : ∀ x, foldedSetIterable iter X.env x = pure x := by intro _; rfl) : PS X (.For tg iter body [] pos) (tFor wi g tb) := by
  intro pins s σ H D I h
  refine wpAny_For (thn (hi pins s σ H _ I h) fun v s1 h1 => thn h1 fun itv s2 h2 => ?_) hs
  obtain ⟨it, fp, tn, J, H2, e, I2, T, st2, f2, W, ⟨m0, w0⟩, turn⟩ := h2
  subst e
  -- what stays true of the iterator's objects through the loop
  have stat : ∀ {H' : Hp}, (∀ b ∈ fp, H' b = none) → ∀ b ∈ fp, FpOk X pins H' b := fun hn b hb => ⟨hn b hb, (f2 b hb).2⟩
  refine codeAny_forLoop_any (fun n s' => ∃ i σ' H', Inv X pins σ' H' s' ∧ tn i s'.heap ∧ (∀ b ∈ fp, H' b = none) ∧ W i n σ' H') ?_ m0 ⟨0, σ, H2, I2, st2, fun b hb => (f2 b hb).1, w0⟩
  rintro n s3 ⟨i, σ3, H3, I3, st3, fr3, w3⟩
  rcases turn i n σ3 H3 w3 with ⟨stop, qn⟩ | ⟨go, N, hN, step⟩
  · refine wpAny_passesOwn hp (thn (T.done X rfl rfl rfl hc i pins s3 σ3 H3 X.xe I3 (stat fr3) st3 stop) fun r s4 ⟨hr, I4⟩ => ?_)
    subst hr
    exact wpAny_execs_nil ⟨σ3, H3, I4, qn⟩
  · refine wpAny_passesOwn hp (thn (T.item X rfl rfl rfl hc i pins s3 σ3 H3 X.xe I3 (stat fr3) st3 go) fun r s4 ⟨u, hr, h4⟩ => ?_)
    subst hr
    refine wpAny_passesOwn hp (thn h4 fun _ s5 ⟨x, H5, I5, r5, y5, st5, fr5⟩ => ?_)
    have I5' := I5.pinned (stat fr5) (T.obj _ _ st5)
    refine wpAny_passesOwn hp (thn (hg _ s5 σ3 H5 x u _ I5' r5 (step x H5 y5)) fun _ s6 ⟨σ6, H6, I6, q6⟩ => ?_)
    refine wpAny_passesOwn hp (thn (hb _ s6 σ6 H6 _ I6 q6) fun f s7 q7 => ?_)
    have again : ∀ {σ7 : St} {H7 : Hp}, Inv X (pins ++ pinsAt fp s5.heap) σ7 H7 s7 → N σ7 H7 → ∃ m, m < n ∧ ∃ i σ' H', Inv X pins σ' H' s7 ∧ tn i s7.heap ∧ (∀ b ∈ fp, H' b = none) ∧ W i m σ' H' := fun {σ7 H7} I7 n7 => by
      obtain ⟨m', hm, w7⟩ := hN σ7 H7 n7
      refine ⟨m', hm, i + 1, σ7, H7, I7.unpinned, T.keep _ _ _ st5 fun b hb o e => (I7.pin (b, o) (List.mem_append_right _ (List.mem_append_right _ (mem_pinsAt hb e)))).1, fun b hb => ?_, w7⟩
      obtain ⟨o, e, d⟩ := T.obj _ _ st5 b hb
      exact (I7.pin (b, o) (List.mem_append_right _ (List.mem_append_right _ (mem_pinsAt hb e)))).2.1
    cases f with
    | next => obtain ⟨σ7, H7, I7, n7⟩ := q7; exact again I7 n7
    | cont => obtain ⟨σ7, H7, I7, n7⟩ := q7; exact again I7 n7
    | brk => obtain ⟨σ7, H7, I7, q7⟩ := q7; exact ⟨σ7, H7, I7.unpinned, q7⟩
    | ret v => obtain ⟨x7, σ7, H7, I7, r7, q7⟩ := q7; exact ⟨x7, σ7, H7, I7.unpinned, r7, q7⟩
end

/-! ### the forms one uses -/
/-- over a list that the body leaves as it is -/
theorem for_list {K : PySem.W.Frag} {a : Addr} {xs : List V} {g : TG} {tb : TS} {D : Ends} {σ : St} {H : Hp} (Pv : Nat → St → Hp → Prop) (h0 : Pv 0 σ H) (hl : ∀ i σ H, i ≤ xs.length → Pv i σ H → SqL K H a xs)
    (hs : ∀ i x σ H, xs[i]? = some x → Pv i σ H → g x σ H fun σ2 H2 => tb { D with nx := Pv (i + 1), ct := Pv (i + 1), bk := D.nx } σ2 H2) (hd : ∀ σ H, Pv xs.length σ H → D.nx σ H) :
    ∃ W : Nat → Nat → St → Hp → Prop, (∃ m, W 0 m σ H) ∧ ∀ i m σ H, W i m σ H →
      ((Itl K a).stop i H ∧ D.nx σ H) ∨ ((Itl K a).go i H ∧ ∃ N : St → Hp → Prop, (∀ σ' H', N σ' H' → ∃ m', m' < m ∧ W (i + 1) m' σ' H') ∧ ∀ x H', (Itl K a).yld i H x H' → g x σ H' fun σ2 H2 => tb { D with nx := N, ct := N, bk := D.nx } σ2 H2) := by
  refine ⟨fun i m σ H => m = xs.length - i ∧ i ≤ xs.length ∧ Pv i σ H, ⟨xs.length, by simp, Nat.zero_le _, h0⟩, ?_⟩
  rintro i m σ H ⟨rfl, hi, p⟩
  have q := hl i σ H hi p
  by_cases hlt : i < xs.length
  · refine .inr ⟨⟨xs, xs[i], q, by simp [hlt]⟩, Pv (i + 1), fun σ' H' p' => ⟨xs.length - (i + 1), by omega, rfl, hlt, p'⟩, fun x H' y => ?_⟩
    obtain ⟨e, y⟩ := y
    subst e
    exact hs i x σ _ (y xs q) p
  · have e : i = xs.length := by omega
    subst e
    exact .inl ⟨⟨xs, q, Nat.le_refl _⟩, hd σ H p⟩
theorem for_tup {K : PySem.W.Frag} {a : Addr} {xs : List V} {g : TG} {tb : TS} {D : Ends} {σ : St} {H : Hp} (Pv : Nat → St → Hp → Prop) (h0 : Pv 0 σ H) (hl : ∀ i σ H, i ≤ xs.length → Pv i σ H → SqT K H a xs)
    (hs : ∀ i x σ H, xs[i]? = some x → Pv i σ H → g x σ H fun σ2 H2 => tb { D with nx := Pv (i + 1), ct := Pv (i + 1), bk := D.nx } σ2 H2) (hd : ∀ σ H, Pv xs.length σ H → D.nx σ H) :
    ∃ W : Nat → Nat → St → Hp → Prop, (∃ m, W 0 m σ H) ∧ ∀ i m σ H, W i m σ H →
      ((Itt K a).stop i H ∧ D.nx σ H) ∨ ((Itt K a).go i H ∧ ∃ N : St → Hp → Prop, (∀ σ' H', N σ' H' → ∃ m', m' < m ∧ W (i + 1) m' σ' H') ∧ ∀ x H', (Itt K a).yld i H x H' → g x σ H' fun σ2 H2 => tb { D with nx := N, ct := N, bk := D.nx } σ2 H2) := by
  refine ⟨fun i m σ H => m = xs.length - i ∧ i ≤ xs.length ∧ Pv i σ H, ⟨xs.length, by simp, Nat.zero_le _, h0⟩, ?_⟩
  rintro i m σ H ⟨rfl, hi, p⟩
  have q := hl i σ H hi p
  by_cases hlt : i < xs.length
  · refine .inr ⟨⟨xs, xs[i], q, by simp [hlt]⟩, Pv (i + 1), fun σ' H' p' => ⟨xs.length - (i + 1), by omega, rfl, hlt, p'⟩, fun x H' y => ?_⟩
    obtain ⟨e, y⟩ := y
    subst e
    exact hs i x σ _ (y xs q) p
  · have e : i = xs.length := by omega
    subst e
    exact .inl ⟨⟨xs, q, Nat.le_refl _⟩, hd σ H p⟩
theorem for_range {lo : Int} {n : Nat} {g : TG} {tb : TS} {D : Ends} {σ : St} {H : Hp} (Pv : Nat → St → Hp → Prop) (h0 : Pv 0 σ H)
    (hs : ∀ i σ H, i < n → Pv i σ H → g (.int (lo + i)) σ H fun σ2 H2 => tb { D with nx := Pv (i + 1), ct := Pv (i + 1), bk := D.nx } σ2 H2) (hd : ∀ σ H, Pv n σ H → D.nx σ H) :
    ∃ W : Nat → Nat → St → Hp → Prop, (∃ m, W 0 m σ H) ∧ ∀ i m σ H, W i m σ H →
      ((Itr lo n).stop i H ∧ D.nx σ H) ∨ ((Itr lo n).go i H ∧ ∃ N : St → Hp → Prop, (∀ σ' H', N σ' H' → ∃ m', m' < m ∧ W (i + 1) m' σ' H') ∧ ∀ x H', (Itr lo n).yld i H x H' → g x σ H' fun σ2 H2 => tb { D with nx := N, ct := N, bk := D.nx } σ2 H2) := by
  refine ⟨fun i m σ H => m = n - i ∧ i ≤ n ∧ Pv i σ H, ⟨n, by simp, Nat.zero_le _, h0⟩, ?_⟩
  rintro i m σ H ⟨rfl, hi, p⟩
  by_cases hlt : i < n
  · refine .inr ⟨hlt, Pv (i + 1), fun σ' H' p' => ⟨n - (i + 1), by omega, rfl, hlt, p'⟩, fun x H' y => ?_⟩
    obtain ⟨e, y⟩ := y
    subst e y
    exact hs i σ _ hlt p
  · have e : i = n := by omega
    subst e
    exact .inl ⟨Nat.le_refl _, hd σ H p⟩
end L2

namespace L2
open PySem PySem.Spec PyProof.Rows

abbrev R2 := V → V → Hp → VK → Prop
/-- a two-place operation on values: f is binaryOp op, inplaceOp op or compareOp op -/
def OpR (X : Cx) (f : Value → Value → Sem Value) (r : R2) : Prop :=
  ∀ (pins : List (Addr × Obj)) (s : Shared) (σ : St) (H : Hp) (x y : V) (v u : Value) (Q : VK), Inv X pins σ H s → RelV x v → RelV y u → r x y H Q →
    wpAny (model X.prog X.w) X.A (f v u) (EP X pins σ Q) X.xe s
/-- a one-place operation -/
def UnR (X : Cx) (f : Value → Sem Value) (r : V → Hp → VK → Prop) : Prop :=
  ∀ (pins : List (Addr × Obj)) (s : Shared) (σ : St) (H : Hp) (x : V) (v : Value) (Q : VK), Inv X pins σ H s → RelV x v → r x H Q →
    wpAny (model X.prog X.w) X.A (f v) (EP X pins σ Q) X.xe s
/-- a call of a value that is known (a builtin, a type) with values -/
def CallR (X : Cx) (f : Value) (r : List V → Hp → VK → Prop) : Prop :=
  ∀ (pins : List (Addr × Obj)) (s : Shared) (σ : St) (H : Hp) (xs : List V) (us : List Value) (Q : VK), Inv X pins σ H s → Vals xs us → r xs H Q →
    wpAny (model X.prog X.w) X.A (call f us) (EP X pins σ Q) X.xe s

def tOp (r : R2) (ta tb : TE) : TE := fun σ H Q => ta σ H fun x H1 => tb σ H1 fun y H2 => r x y H2 Q
def tUn (r : V → Hp → VK → Prop) (ta : TE) : TE := fun σ H Q => ta σ H fun x H1 => r x H1 Q
/-- ints in, under C, and a value out -/
def rI (C : Int → Int → Prop) (g : Int → Int → V) : R2 := fun x y H Q => ∃ i j, x = .int i ∧ y = .int j ∧ C i j ∧ Q (g i j) H
def rI0 (g : Int → Int → V) : R2 := fun x y H Q => ∃ i j, x = .int i ∧ y = .int j ∧ Q (g i j) H
def rU (g : Int → V) : V → Hp → VK → Prop := fun x H Q => ∃ i, x = .int i ∧ Q (g i) H

section
variable {X : Cx} {a b c : Expr} {ta tb tc : TE} {pos : Pos}

theorem binT (ha : PE X a ta) (hb : PE X b tb) {pins : List (Addr × Obj)} {s : Shared} {σ : St} {H : Hp} {R : V → V → Hp → Prop} (I : Inv X pins σ H s)
    (h : ta σ H fun x H1 => tb σ H1 fun y H2 => R x y H2) {Q : Value → Shared → Prop} {f : Value → Value → Sem Value}
    (hf : ∀ v u s2 x y H2, Inv X pins σ H2 s2 → RelV x v → RelV y u → R x y H2 → wpAny (model X.prog X.w) X.A (f v u) Q X.xe s2) :
    wpAny (model X.prog X.w) X.A (eval a X.env) (fun v s₁ => wpAny (model X.prog X.w) X.A (eval b X.env) (fun u s₂ => wpAny (model X.prog X.w) X.A (f v u) Q X.xe s₂) X.xe s₁) X.xe s := by
  refine thn (ha pins s σ H _ I h) fun v s1 ⟨x, H1, I1, r1, q1⟩ => ?_
  refine thn (hb pins s1 σ H1 _ I1 q1) fun u s2 ⟨y, H2, I2, r2, q2⟩ => ?_
  exact hf v u s2 x y H2 I2 r1 r2 q2

theorem pe_op {op : Operator} {r : R2} (ho : OpR X (binaryOp op) r) (ha : PE X a ta) (hb : PE X b tb) : PE X (.BinOp a op b pos) (tOp r ta tb) := by
  intro pins s σ H Q I h
  exact wpAny_BinOp (binT ha hb I h fun v u s2 x y H2 I2 rx ry q => ho pins s2 σ H2 x y v u Q I2 rx ry q)
theorem pe_un {op : UnaryOp} {r : V → Hp → VK → Prop} (ho : UnR X (unaryOp op) r) (ha : PE X a ta) : PE X (.UnaryOp op a pos) (tUn r ta) := by
  intro pins s σ H Q I h
  exact UnaryOp_ (thn (ha pins s σ H _ I h) fun v s1 ⟨x, H1, I1, r1, q1⟩ => ho pins s1 σ H1 x v Q I1 r1 q1)

/-! ### ints -/
theorem opI {f : Value → Value → Sem Value} {C : Int → Int → Prop} {g : Int → Int → Int}
    (rule : ∀ (i j : Int) (t u : Tok) (s : Shared) (Q : Value → Shared → Prop) (E : Value → Shared → Prop), C i j → Q (.int (g i j) s.toks) { s with toks := s.toks + 1 } → wpAny (model X.prog X.w) X.A (f (.int i t) (.int j u)) Q E s) :
    OpR X f (rI C fun i j => .int (g i j)) := by
  intro pins s σ H x y v u Q I rx ry h
  obtain ⟨i, j, rfl, rfl, hc, q⟩ := h
  obtain ⟨t, rfl⟩ := rx
  obtain ⟨t', rfl⟩ := ry
  exact rule i j t t' s _ _ hc ⟨.int (g i j), H, I.tok _, ⟨_, rfl⟩, q⟩
theorem opI0 {f : Value → Value → Sem Value} {g : Int → Int → Int}
    (rule : ∀ (i j : Int) (t u : Tok) (s : Shared) (Q : Value → Shared → Prop) (E : Value → Shared → Prop), Q (.int (g i j) s.toks) { s with toks := s.toks + 1 } → wpAny (model X.prog X.w) X.A (f (.int i t) (.int j u)) Q E s) :
    OpR X f (rI0 fun i j => .int (g i j)) := by
  intro pins s σ H x y v u Q I rx ry h
  obtain ⟨i, j, rfl, rfl, q⟩ := h
  obtain ⟨t, rfl⟩ := rx
  obtain ⟨t', rfl⟩ := ry
  exact rule i j t t' s _ _ ⟨.int (g i j), H, I.tok _, ⟨_, rfl⟩, q⟩
theorem opB0 {f : Value → Value → Sem Value} {g : Int → Int → Bool}
    (rule : ∀ (i j : Int) (t u : Tok) (s : Shared) (Q : Value → Shared → Prop) (E : Value → Shared → Prop), Q (.bool (g i j)) s → wpAny (model X.prog X.w) X.A (f (.int i t) (.int j u)) Q E s) :
    OpR X f (rI0 fun i j => .bl (g i j)) := by
  intro pins s σ H x y v u Q I rx ry h
  obtain ⟨i, j, rfl, rfl, q⟩ := h
  obtain ⟨t, rfl⟩ := rx
  obtain ⟨t', rfl⟩ := ry
  exact rule i j t t' s _ _ ⟨.bl (g i j), H, I, rfl, q⟩

def CPow (i j : Int) : Prop := 0 ≤ j ∧ j ≤ 1000000 ∧ i.natAbs < 2 ^ 64

theorem op_add : OpR X (binaryOp .Add) (rI0 fun i j => .int (i + j)) := opI0 fun _ _ _ _ _ _ _ q => add_int q
theorem op_sub : OpR X (binaryOp .Sub) (rI0 fun i j => .int (i - j)) := opI0 fun _ _ _ _ _ _ _ q => sub_int q
theorem op_modN : OpR X (binaryOp .Mod) (rI (fun _ j => j ≠ 0) fun i j => .int (i.fmod j)) := opI fun _ _ _ _ _ _ _ hc q => mod_int' hc q
theorem op_pow : OpR X (binaryOp .Pow) (rI CPow fun i j => .int (i ^ j.toNat)) := opI fun _ _ _ _ _ _ _ hc q => pow_int_small hc.1 hc.2.1 hc.2.2 q


theorem unI {f : Value → Sem Value} {g : Int → Int}
    (rule : ∀ (i : Int) (t : Tok) (s : Shared) (Q : Value → Shared → Prop) (E : Value → Shared → Prop), Q (.int (g i) s.toks) { s with toks := s.toks + 1 } → wpAny (model X.prog X.w) X.A (f (.int i t)) Q E s) :
    UnR X f (rU fun i => .int (g i)) := by
  intro pins s σ H x v Q I rx h
  obtain ⟨i, rfl, q⟩ := h
  obtain ⟨t, rfl⟩ := rx
  exact rule i t s _ _ ⟨.int (g i), H, I.tok _, ⟨_, rfl⟩, q⟩
theorem un_neg : UnR X (unaryOp .USub) (rU fun i => .int (-i)) := unI fun _ _ _ _ _ q => neg_int q

/-! ### bools among ints: n += (a < b) -/
end

/-! ### comparisons -/
/-- the scalars that == tells apart as data does -/
def scal : V → V → Bool
  | .non, .non => true | .non, .int _ => true | .int _, .non => true | .non, .bl _ => true | .bl _, .non => true | .non, .str _ => true | .str _, .non => true
  | .int _, .int _ => true | .bl _, .bl _ => true | .str _, .str _ => true | .byt _, .byt _ => true
  | .int _, .str _ => true | .str _, .int _ => true | .bl _, .str _ => true | .str _, .bl _ => true
  | _, _ => false
def rEq : R2 := fun x y H Q => scal x y = true ∧ Q (.bl (decide (x = y))) H
def rNe : R2 := fun x y H Q => scal x y = true ∧ Q (.bl (!decide (x = y))) H

theorem dec_int {i j : Int} : decide (V.int i = V.int j) = (i == j) := by
  rw [Bool.eq_iff_iff]
  simp
theorem dec_bl {i j : Bool} : decide (V.bl i = V.bl j) = (i == j) := by
  rw [Bool.eq_iff_iff]
  simp
theorem dec_str {i j : Str} : decide (V.str i = V.str j) = (i == j) := by
  rw [Bool.eq_iff_iff]
  simp
theorem dec_byt {i j : Array UInt8} : decide (V.byt i = V.byt j) = (i.toList == j.toList) := by
  rw [Bool.eq_iff_iff]
  cases i
  cases j
  simp

section
variable {X : Cx} {a b c : Expr} {ta tb tc : TE} {pos : Pos}
theorem fin_bl {pins : List (Addr × Obj)} {σ : St} {H : Hp} {s : Shared} {Q : VK} {k k' : Bool} (I : Inv X pins σ H s) (q : Q (.bl k) H) (e : k = k') : EP X pins σ Q (.bool k') s := by
  subst e
  exact ⟨.bl k, H, I, rfl, q⟩
theorem op_eq : OpR X (compareOp .Eq) rEq := by
  intro pins s σ H x y v u Q I rx ry h
  obtain ⟨hs, q⟩ := h
  cases x with
  | non =>
    cases rx
    cases y with
    | non => cases ry; exact PySem.EqNone.eq_none_none (fin_bl I q (by simp))
    | bl j => cases ry; exact PySem.EqNone.eq_none_bool (fin_bl I q (by simp))
    | int j => obtain ⟨t', rfl⟩ := ry; exact PySem.EqNone.eq_none_int (fin_bl I q (by simp))
    | str j => obtain ⟨t', rfl⟩ := ry; exact PySem.EqNone.eq_none_str (fin_bl I q (by simp))
    | _ => exact absurd (show false = true from hs) Bool.false_ne_true
  | bl i =>
    cases rx
    cases y with
    | non => cases ry; exact PySem.EqNone.eq_bool_none (fin_bl I q (by simp))
    | bl j => cases ry; exact eq_bool (fin_bl I q dec_bl)
    | str j => obtain ⟨t', rfl⟩ := ry; exact PySem.EqMixed.eq_bool_str (fin_bl I q (by simp))
    | _ => exact absurd (show false = true from hs) Bool.false_ne_true
  | int i =>
    obtain ⟨t, rfl⟩ := rx
    cases y with
    | non => cases ry; exact PySem.EqNone.eq_int_none (fin_bl I q (by simp))
    | int j => obtain ⟨t', rfl⟩ := ry; exact eq_int (fin_bl I q dec_int)
    | str j => obtain ⟨t', rfl⟩ := ry; exact PySem.EqMixed.eq_int_str (fin_bl I q (by simp))
    | _ => exact absurd (show false = true from hs) Bool.false_ne_true
  | str i =>
    obtain ⟨t, rfl⟩ := rx
    cases y with
    | non => cases ry; exact PySem.EqNone.eq_str_none (fin_bl I q (by simp))
    | bl j => cases ry; exact PySem.EqMixed.eq_str_bool (fin_bl I q (by simp))
    | int j => obtain ⟨t', rfl⟩ := ry; exact PySem.EqMixed.eq_str_int (fin_bl I q (by simp))
    | str j => obtain ⟨t', rfl⟩ := ry; exact eq_str (fin_bl I q dec_str)
    | _ => exact absurd (show false = true from hs) Bool.false_ne_true
  | byt i =>
    obtain ⟨t, rfl⟩ := rx
    cases y with
    | byt j => obtain ⟨t', rfl⟩ := ry; exact PySem.W.eq_bytes (fin_bl I q dec_byt)
    | _ => exact absurd (show false = true from hs) Bool.false_ne_true
  | _ => cases y <;> exact absurd (show false = true from hs) Bool.false_ne_true
theorem op_ne : OpR X (compareOp .NotEq) rNe := by
  intro pins s σ H x y v u Q I rx ry h
  obtain ⟨hs, q⟩ := h
  cases x with
  | non =>
    cases rx
    cases y with
    | non => cases ry; exact PySem.EqNone.ne_none_none (fin_bl I q (by simp))
    | bl j => cases ry; exact PySem.EqNone.ne_none_bool (fin_bl I q (by simp))
    | int j => obtain ⟨t', rfl⟩ := ry; exact PySem.EqNone.ne_none_int (fin_bl I q (by simp))
    | str j => obtain ⟨t', rfl⟩ := ry; exact PySem.EqNone.ne_none_str (fin_bl I q (by simp))
    | _ => exact absurd (show false = true from hs) Bool.false_ne_true
  | bl i =>
    cases rx
    cases y with
    | non => cases ry; exact PySem.EqNone.ne_bool_none (fin_bl I q (by simp))
    | bl j => cases ry; exact ne_bool (fin_bl I q (congrArg not dec_bl))
    | str j => obtain ⟨t', rfl⟩ := ry; exact PySem.EqMixed.ne_bool_str (fin_bl I q (by simp))
    | _ => exact absurd (show false = true from hs) Bool.false_ne_true
  | int i =>
    obtain ⟨t, rfl⟩ := rx
    cases y with
    | non => cases ry; exact PySem.EqNone.ne_int_none (fin_bl I q (by simp))
    | int j => obtain ⟨t', rfl⟩ := ry; exact ne_int (fin_bl I q (congrArg not dec_int))
    | str j => obtain ⟨t', rfl⟩ := ry; exact PySem.EqMixed.ne_int_str (fin_bl I q (by simp))
    | _ => exact absurd (show false = true from hs) Bool.false_ne_true
  | str i =>
    obtain ⟨t, rfl⟩ := rx
    cases y with
    | non => cases ry; exact PySem.EqNone.ne_str_none (fin_bl I q (by simp))
    | bl j => cases ry; exact PySem.EqMixed.ne_str_bool (fin_bl I q (by simp))
    | int j => obtain ⟨t', rfl⟩ := ry; exact PySem.EqMixed.ne_str_int (fin_bl I q (by simp))
    | str j => obtain ⟨t', rfl⟩ := ry; exact ne_str (fin_bl I q (congrArg not dec_str))
    | _ => exact absurd (show false = true from hs) Bool.false_ne_true
  | byt i =>
    obtain ⟨t, rfl⟩ := rx
    cases y with
    | byt j => obtain ⟨t', rfl⟩ := ry; exact PySem.W.ne_bytes (fin_bl I q (congrArg not dec_byt))
    | _ => exact absurd (show false = true from hs) Bool.false_ne_true
  | _ => cases y <;> exact absurd (show false = true from hs) Bool.false_ne_true

theorem op_lt : OpR X (compareOp .Lt) (rI0 fun i j => .bl (decide (i < j))) := opB0 fun _ _ _ _ _ _ _ q => lt_int q
theorem op_le : OpR X (compareOp .LtE) (rI0 fun i j => .bl (decide (i ≤ j))) := opB0 fun _ _ _ _ _ _ _ q => le_int q
theorem op_gt : OpR X (compareOp .Gt) (rI0 fun i j => .bl (decide (j < i))) := opB0 fun _ _ _ _ _ _ _ q => gt_int q
theorem op_ge : OpR X (compareOp .GtE) (rI0 fun i j => .bl (decide (j ≤ i))) := opB0 fun _ _ _ _ _ _ _ q => ge_int q




theorem nomark (b : Expr) {op : CmpOp} (h : op ≠ .In := by decide) (h2 : op ≠ .NotIn := by decide) : behindInMarks op b = false := by
  have e1 : (op == CmpOp.In) = false := by cases op <;> first | rfl | exact absurd rfl h
  have e2 : (op == CmpOp.NotIn) = false := by cases op <;> first | rfl | exact absurd rfl h2
  cases b <;> simp [behindInMarks, e1, e2]
/-- a comparison as a value; hm: nomark b, or (for in, not in) by with_unfolding_all rfl -/
theorem pe_cmpR {op : CmpOp} {r : R2} (ho : OpR X (compareOp op) r) (ha : PE X a ta) (hb : PE X b tb) (hm : behindInMarks op b = false) : PE X (.Compare a [op] [b] pos) (tOp r ta tb) := by
  intro pins s σ H Q I h
  exact wpAny_Compare1 (binT ha hb I h fun v u s2 x y H2 I2 rx ry q => ho pins s2 σ H2 x y v u Q I2 rx ry q) hm
/-- a reading of a value as a test -/
def tTest (t : TE) : TT := fun σ H Q => t σ H fun x H' => ∃ k, x = .bl k ∧ Q k H'
theorem pt_cmpR {op : CmpOp} {r : R2} (ho : OpR X (compareOp op) r) (ha : PE X a ta) (hb : PE X b tb) (hm : behindInMarks op b = false) : PT X (.Compare a [op] [b] pos) (tTest (tOp r ta tb)) := by
  intro pins s σ H Q I h
  refine wpAny_isTrue_Compare1 (thn (ha pins s σ H _ I h) fun v s1 ⟨x, H1, I1, r1, q1⟩ => thn (hb pins s1 σ H1 _ I1 q1) fun u s2 ⟨y, H2, I2, r2, q2⟩ =>
    thn (ho pins s2 σ H2 x y v u _ I2 r1 r2 q2) fun c s3 ⟨z, H3, I3, r3, k, e, q3⟩ => ?_) hm
  subst e
  cases r3
  exact wpAny_truthy_bool ⟨H3, I3, q3⟩
/-- a op1 b op2 c -/
def tChain (r r' : R2) (ta tb tc : TE) : TE := fun σ H Q => ta σ H fun x H1 => tb σ H1 fun y H2 => r x y H2 fun z H3 => ∃ k, z = .bl k ∧
  (if k = true then tc σ H3 fun w' H4 => r' y w' H4 Q else Q (.bl false) H3)
theorem pt_chain {op op' : CmpOp} {r r' : R2} (ho : OpR X (compareOp op) r) (ho' : OpR X (compareOp op') r') (ha : PE X a ta) (hb : PE X b tb) (hc : PE X c tc)
    (hm : lastMarks [op, op'] [b, c] = false := by with_unfolding_all rfl) : PT X (.Compare a [op, op'] [b, c] pos) (tTest (tChain r r' ta tb tc)) := by
  intro pins s σ H Q I h
  refine isTrue_chain (thn (ha pins s σ H _ I h) fun v s1 ⟨x, H1, I1, r1, q1⟩ => test_link (thn (hb pins s1 σ H1 _ I1 q1) fun u s2 ⟨y, H2, I2, r2, q2⟩ =>
    thn (ho pins s2 σ H2 x y v u _ I2 r1 r2 q2) fun d s3 ⟨z, H3, I3, r3, k, e, q3⟩ => ?_)) hm
  subst e
  cases r3
  refine wpAny_truthy_bool ?_
  cases k with
  | false =>
    obtain ⟨k', e', q'⟩ := q3
    cases e'
    exact ite_ff ⟨H3, I3, q'⟩
  | true =>
    refine ite_tt (test_last (thn (hc pins s3 σ H3 _ I3 q3) fun w' s4 ⟨z', H4, I4, r4, q4⟩ => thn (ho' pins s4 σ H4 y z' u w' _ I4 r2 r4 q4) fun d' s5 ⟨z2, H5, I5, r5, k2, e2, q5⟩ => ?_))
    subst e2
    cases r5
    exact wpAny_truthy_bool ⟨H5, I5, q5⟩

/-! ### truth -/
theorem line63 : (sizeLine : Nat) < 2 ^ 63 := by rw [sizeLine_eq]; decide

/-! ### strs and bytes -/


/-! ### scalar builtins, by CallR -/
theorem vals1 {x : V} {us : List Value} (r : Vals [x] us) : ∃ u, us = [u] ∧ RelV x u := by
  cases r with
  | cons r1 r2 => cases r2; exact ⟨_, rfl, r1⟩
theorem vals2 {x y : V} {us : List Value} (r : Vals [x, y] us) : ∃ u w', us = [u, w'] ∧ RelV x u ∧ RelV y w' := by
  cases r with
  | cons r1 r2 =>
    cases r2 with
    | cons r3 r4 => cases r4; exact ⟨_, _, rfl, r1, r3⟩
theorem call_abs : CallR X (.builtin "abs") (fun xs H Q => ∃ i, xs = [.int i] ∧ Q (.int (if i < 0 then -i else i)) H) := by
  intro pins s σ H xs us Q I r h
  obtain ⟨i, rfl, q⟩ := h
  obtain ⟨u, rfl, t, rfl⟩ := vals1 r
  exact call_abs_int fun u tk => ⟨.int (if i < 0 then -i else i), H, I.tok _, ⟨_, rfl⟩, q⟩
theorem call_max2 (hc : X.calm = true) : CallR X (.builtin "max") (fun xs H Q => ∃ i j, xs = [.int i, .int j] ∧ Q (.int (if j > i then j else i)) H) := by
  intro pins s σ H xs us Q I r h
  obtain ⟨i, j, rfl, q⟩ := h
  obtain ⟨u, w', rfl, ⟨t, rfl⟩, ⟨t', rfl⟩⟩ := vals2 r
  refine max_two_ints (I.ok.hd hc) fun h' tk k => ⟨_, H, I.kept k, ?_, q⟩
  by_cases hj : j > i
  · rw [if_pos hj, if_pos hj]; exact ⟨_, rfl⟩
  · rw [if_neg hj, if_neg hj]; exact ⟨_, rfl⟩
theorem call_min2 (hc : X.calm = true) : CallR X (.builtin "min") (fun xs H Q => ∃ i j, xs = [.int i, .int j] ∧ Q (.int (if j < i then j else i)) H) := by
  intro pins s σ H xs us Q I r h
  obtain ⟨i, j, rfl, q⟩ := h
  obtain ⟨u, w', rfl, ⟨t, rfl⟩, ⟨t', rfl⟩⟩ := vals2 r
  refine min_two_ints (I.ok.hd hc) fun h' tk k => ⟨_, H, I.kept k, ?_, q⟩
  by_cases hj : j < i
  · rw [if_pos hj, if_pos hj]; exact ⟨_, rfl⟩
  · rw [if_neg hj, if_neg hj]; exact ⟨_, rfl⟩
theorem call_int1 : CallR X (.type "int") (fun xs H Q => (∃ i, xs = [.int i] ∧ Q (.int i) H) ∨ ∃ k, xs = [.bl k] ∧ Q (.int (if k then 1 else 0)) H) := by
  intro pins s σ H xs us Q I r h
  rcases h with ⟨i, rfl, q⟩ | ⟨k, rfl, q⟩
  · obtain ⟨u, rfl, t, rfl⟩ := vals1 r
    exact call_int_int ⟨.int i, H, I, ⟨_, rfl⟩, q⟩
  · obtain ⟨u, rfl, r1⟩ := vals1 r
    cases r1
    exact call_int_bool ⟨.int (if k then 1 else 0), H, I.tok _, ⟨_, rfl⟩, q⟩
end
end L2

namespace L2
open PySem PySem.Spec PyProof.Rows

/-! ### an instance, its attributes a map -/
structure ObjM (h : Heap) (x dx C : Addr) (mA : Str → Option Value) : Prop where
  obj : h.get? x = some (PySem.W.instObj C dx)
  ns : h.Ns1 dx mA
  ne : dx ≠ x

theorem lookIn_ns {h : Heap} {dx : Addr} {mA : Str → Option Value} (n : h.Ns1 dx mA) : ∃ od, h.get? dx = some od ∧ ∀ name, PySem.W.lookIn name od = some (mA name) := by
  obtain ⟨o, es, ep, ho, hd, hk, _, hm⟩ := n
  refine ⟨o, ho, fun name => ?_⟩
  have e := hm name
  unfold nsFind findBy at e
  rw [← Array.find?_toList] at e
  unfold PySem.W.lookIn
  rw [hd]
  dsimp only
  split
  · rename_i y q
    rw [q] at e
    exact congrArg some e
  · rename_i q
    rw [q] at e
    have a : es.toList.any (·.refKey) = false := by
      rw [List.any_eq_false]
      intro y hy
      obtain ⟨z, t, hkey⟩ := hk y (Array.mem_toList_iff.mp hy)
      simp [DictEntry.refKey, hkey]
    have a' : ¬ es.toList.any (·.refKey) = true := by rw [a]; exact Bool.false_ne_true
    rw [if_neg a']
    exact congrArg some e

theorem ObjM.look {h : Heap} {x dx C : Addr} {mA : Str → Option Value} (I : ObjM h x dx C mA) : ∃ od, PySem.W.InstAt h x (PySem.W.instObj C dx) C (some od) ∧ ∀ name, PySem.W.lookIn name od = some (mA name) :=
  let ⟨od, ho, hl⟩ := lookIn_ns I.ns
  ⟨od, ⟨I.obj, rfl, rfl, ho⟩, hl⟩

section
variable {prog : Program} {w : World} {A : Around} {E : Value → Shared → Prop} {s : Shared} {K : PySem.W.Frag} {x dx C f : Addr} {mA : Str → Option Value} {name : Str} {v : Value}

theorem get_map {expr : Bool} {Q : Value → Shared → Prop} (X : K.In s.heap) (I : ObjM s.heap x dx C mA) (hg : PySem.W.plainGet K C name = true) (hh : PySem.W.hasDictIn K C = true)
    (ha : PySem.W.findIn K (.ref C) name = some none) (hv : mA name = some v) (hv' : PySem.W.handedIn v = true) (h : Q v { s with toks := s.toks + 1 }) :
    wpAny (model prog w) A (getAttr (.ref x) name expr) Q E s := by
  obtain ⟨od, J, hl⟩ := I.look
  exact PySem.W.get_value X J (PySem.W.plainGet_of hg).1 (PySem.W.findObj_own hh ha rfl (by rw [hl, hv])) hv' h



theorem set_map {ns : List Str} {Q : Unit → Shared → Prop} (X : K.In s.heap) (I : ObjM s.heap x dx C mA)
    (hs : PySem.W.findIn K (.ref C) "__setattr__" = some (some (.builtin "object.__setattr__"))) (hp : PySem.W.plainOver K C = true) (ht : PySem.W.takerIn K C name = some none) (hh : PySem.W.hasDictIn K C = true)
    (hw : PySem.Within mA ns) (hsz : ns.length ≤ sizeLine)
    (h : ∀ h', ObjM h' x dx C (fun y => if y = name then some v else mA y) → Heap.SameBut dx s.heap h' → Q () { s with heap := h', toks := s.toks + 2 }) :
    wpAny (model prog w) A (setAttr (.ref x) name v) Q E s := by
  obtain ⟨od, J, hl⟩ := I.look
  refine PySem.W.set_plain X J hs (PySem.W.osa_open (s := { s with toks := s.toks + 1 }) (r := none) X J hp ht fun b => ?_)
  obtain ⟨cd, hc, hd'⟩ := PySem.W.any_some hh
  have hx : s.heap.get? x = some ⟨.ref C, some dx, .plain, #[]⟩ := I.obj
  refine wpAny_bind (wpAny_pure (wpAny_bind (wpAny_bind (wpAny_loadPart hx (wpAny_bind (PySem.W.Looks.here (s := { s with toks := s.toks + 1 }) (PySem.W.looks_clsIn X hc) ?_))))))
  rw [hd']
  refine wpAny_pure (a := some dx) (wpAny_bind (wpAny_pure (wpAny_bind ?_)))
  refine wpAny_nsSet1 (s := { s with toks := s.toks + 1 }) I.ns fun h' hn2 hs2 => ?_
  obtain ⟨oD, esD, epD, hoD, hdD, hcD⟩ := hn2.count (PySem.Within.cons name v hw)
  refine wpAny_bind (wpAny_lookBehind hoD (by rw [hdD]; exact pastItsLine_dict (Nat.le_trans hcD (by rw [List.length_cons]; omega))) ?_)
  exact wpAny_pure (h _ ⟨(hs2.2 _ (Ne.symm I.ne)).trans I.obj, hn2, I.ne⟩ hs2)

/-- C(..): the dict at the heap's end, the instance behind it; then its __init__ -/
theorem make_map {R : Result → Shared → Prop} {vs : List Value} {kw : List (Str × Value)} (X : K.In s.heap) (hm : PySem.W.makesIn K C = true)
    (hi : PySem.W.findIn K (.ref C) "__init__" = some (some (.ref f))) (hf : PySem.W.typeIn K (.ref f) = some (.type "function"))
    (h : codeAny (model prog w) (A.under (.builtin "type.__call__" ⟨.ref C :: vs, kw⟩)) (.call (.ref f) ⟨.ref (s.heap.objs.size + 1) :: vs, kw⟩) (PySem.W.InitBack (s.heap.objs.size + 1) R)
      { s with heap := (s.heap.push PySem.W.emptyDict).push (PySem.W.instObj C s.heap.objs.size) }) :
    codeAny (model prog w) A (.call (.ref C) ⟨vs, kw⟩) R s := by
  obtain ⟨hh, g, d, t, os⟩ := s
  exact PySem.W.make_core (PySem.W.makes_of X hm) (PySem.W.looks_findIn X hi) (fun self => PySem.W.bind_fn X self hf) (.inl rfl) h
end

/-! ### the attributes as a list of pairs -/
def putF (f : Str) (v : V) : List (Str × V) → List (Str × V)
  | [] => [(f, v)]
  | (g, x) :: r => if g = f then (g, v) :: r else (g, x) :: putF f v r
theorem lookup_putF (f g : Str) (v : V) : ∀ fs : List (Str × V), (putF f v fs).lookup g = if g = f then some v else fs.lookup g
  | [] => by
    show List.lookup g [(f, v)] = _
    by_cases h : g = f
    · have hb : (g == f) = true := beq_iff_eq.mpr h
      simp only [List.lookup, hb, if_pos h]
    · have hb : (g == f) = false := beq_eq_false_iff_ne.mpr h
      simp only [List.lookup, hb, if_neg h]
  | (k, x) :: r => by
    have ih := lookup_putF f g v r
    rw [show putF f v ((k, x) :: r) = (if k = f then (k, v) :: r else (k, x) :: putF f v r) from rfl]
    by_cases hk : k = f
    · rw [if_pos hk]
      by_cases h : g = k
      · have hb : (g == k) = true := beq_iff_eq.mpr h
        simp only [List.lookup, hb, if_pos (h.trans hk)]
      · have hb : (g == k) = false := beq_eq_false_iff_ne.mpr h
        simp only [List.lookup, hb, if_neg (fun e : g = f => h (e.trans hk.symm))]
    · rw [if_neg hk]
      by_cases h : g = k
      · have hb : (g == k) = true := beq_iff_eq.mpr h
        simp only [List.lookup, hb, if_neg (fun e : g = f => hk (h.symm.trans e))]
      · have hb : (g == k) = false := beq_eq_false_iff_ne.mpr h
        simp only [List.lookup, hb]
        exact ih
theorem keys_putF (f : Str) (v : V) : ∀ fs : List (Str × V), f ∈ (putF f v fs).map (·.1) ∧ ∀ g, g ∈ fs.map (·.1) → g ∈ (putF f v fs).map (·.1)
  | [] => ⟨by simp [putF], fun g h => by simp at h⟩
  | (k, x) :: r => by
    obtain ⟨i1, i2⟩ := keys_putF f v r
    rw [show putF f v ((k, x) :: r) = (if k = f then (k, v) :: r else (k, x) :: putF f v r) from rfl]
    by_cases hk : k = f
    · rw [if_pos hk]
      subst hk
      exact ⟨by simp, fun g h => by simpa using h⟩
    · rw [if_neg hk]
      refine ⟨?_, fun g h => ?_⟩
      · rw [List.map_cons]
        exact List.mem_cons_of_mem _ i1
      · rw [List.map_cons] at h ⊢
        rcases List.mem_cons.mp h with e | e
        · exact List.mem_cons.mpr (.inl e)
        · exact List.mem_cons_of_mem _ (i2 g e)
theorem length_putF (f : Str) (v : V) : ∀ fs : List (Str × V), (putF f v fs).length ≤ fs.length + 1
  | [] => by simp [putF]
  | (k, x) :: r => by
    have ih := length_putF f v r
    rw [show putF f v ((k, x) :: r) = (if k = f then (k, v) :: r else (k, x) :: putF f v r) from rfl]
    by_cases hk : k = f
    · rw [if_pos hk, List.length_cons, List.length_cons]; omega
    · rw [if_neg hk, List.length_cons, List.length_cons]; omega

theorem RelO.some_of {v : V} {o : Option Value} (r : RelO (some v) o) : ∃ u, o = some u ∧ RelV v u := by
  cases o with
  | none => exact (show False from r).elim
  | some u => exact ⟨u, rfl, r⟩
theorem handed_of {v : V} {u : Value} (r : RelV v u) : PySem.W.handedIn u = true := by
  cases v with
  | non => cases (show u = Value.none from r); rfl
  | bl b => cases (show u = Value.bool b from r); rfl
  | int i => obtain ⟨t, e⟩ := (show ∃ t, u = Value.int i t from r); cases e; rfl
  | str x => obtain ⟨t, e⟩ := (show ∃ t, u = Value.str x t from r); cases e; rfl
  | byt b => obtain ⟨t, e⟩ := (show ∃ t, u = Value.bytes b t from r); cases e; rfl
  | flt b => obtain ⟨t, e⟩ := (show ∃ t, u = Value.float b t from r); cases e; rfl
  | ref a => cases (show u = Value.ref a from r); rfl
  | ty n => cases (show u = Value.type n from r); rfl

section
variable {P : Program} {w : World} {H H' : Hp} {h h' : Heap} {a C dx : Addr} {fs fs' : List (Str × V)}
theorem ins_get (hok : HOk P w H h) (e : H a = some (.ins C dx fs)) : ∃ mA, ObjM h a dx C mA ∧ (∀ f, RelO (fs.lookup f) (mA f)) ∧ PySem.Within mA (fs.map (·.1)) ∧ fs.length ≤ 1000 ∧ H dx = some (.own a) := by
  obtain ⟨d, z, ne, ob, mA, n, r, q⟩ := (show ObjOk P w H h a (.ins C dx fs) from hok a _ e)
  exact ⟨mA, ⟨ob, n, ne⟩, r, q, z, d⟩
end

/-! ### what of the text a class must have -/
structure Cls (K : PySem.W.Frag) (C : Addr) : Prop where
  pg : PySem.W.plainGet K C Str.empty = true
  hd : PySem.W.hasDictIn K C = true
  po : PySem.W.plainOver K C = true
  sa : PySem.W.findIn K (.ref C) "__setattr__" = some (some (.builtin "object.__setattr__"))
theorem Cls.get {K : PySem.W.Frag} {C : Addr} (c : Cls K C) (f : Str) : PySem.W.plainGet K C f = true := c.pg
/-- no class of it has the name -/
def NoAttr (K : PySem.W.Frag) (C : Addr) (f : Str) : Prop := PySem.W.findIn K (.ref C) f = some none
theorem NoAttr.taker {K : PySem.W.Frag} {C : Addr} {f : Str} (n : NoAttr K C f) : PySem.W.takerIn K C f = some none := by
  unfold PySem.W.takerIn
  rw [show PySem.W.findIn K (.ref C) f = some none from n]
  rfl

section
variable {X : Cx} {pins : List (Addr × Obj)} {σ : St} {H : Hp} {s : Shared} {a C dx : Addr} {fs : List (Str × V)} {f : Str} {v : V} {A : Around} {E : Value → Shared → Prop}

theorem getattr_ok {b : Bool} {Q : Value → Shared → Prop} (I : Inv X pins σ H s) (e : H a = some (.ins C dx fs)) (c : Cls X.K C) (n : NoAttr X.K C f) (l : fs.lookup f = some v)
    (h : ∀ u s', Inv X pins σ H s' → RelV v u → Q u s') : wpAny (model X.prog X.w) A (getAttr (.ref a) f b) Q E s := by
  obtain ⟨mA, O, r, _, _, _⟩ := ins_get I.hok e
  obtain ⟨u, hu, ru⟩ := RelO.some_of (v := v) (o := mA f) (by rw [← l]; exact r f)
  exact get_map I.kIn O (c.get f) c.hd n hu (handed_of ru) (h u _ (I.tok _) ru)



theorem setattr_ok {y : V} {u : Value} {Q : Unit → Shared → Prop} (I : Inv X pins σ H s) (e : H a = some (.ins C dx fs)) (c : Cls X.K C) (n : NoAttr X.K C f) (hl : fs.length < 1000) (ry : RelV y u)
    (h : ∀ s', Inv X pins σ (upd H a (.ins C dx (putF f y fs))) s' → Q () s') : wpAny (model X.prog X.w) A (setAttr (.ref a) f u) Q E s := by
  obtain ⟨mA, O, r, wi, _, ho⟩ := ins_get I.hok e
  have hz : (fs.map (·.1)).length ≤ sizeLine := by rw [List.length_map, sizeLine_eq]; omega
  refine set_map I.kIn O c.sa c.po n.taker c.hd wi hz fun h' O' sb => h _ ?_
  have hd : ∃ o, h'.get? dx = some o := let ⟨o, _, _, e', _⟩ := O'.ns; ⟨o, e'⟩
  refine I.write (x := a) (e := dx) (by rw [e]; exact True.intro) (.inr ho) (fun b q hb z => (sb.2 b hb).trans z) hd ?_
  refine ⟨by rw [upd_ne O.ne]; exact ho, ?_, O.ne, O'.obj, _, O'.ns, fun g => ?_, fun g hg => ?_⟩
  · have := length_putF f y fs; omega
  · show RelO ((putF f y fs).lookup g) (if g = f then some u else mA g)
    rw [lookup_putF]
    by_cases q : g = f
    · rw [if_pos q, if_pos q]; exact ry
    · rw [if_neg q, if_neg q]; exact r g
  · by_cases q : g = f
    · rw [q]; exact (keys_putF f y fs).1
    · refine (keys_putF f y fs).2 g (wi g fun z => hg ?_)
      show (if g = f then some u else mA g) = none
      rw [if_neg q]; exact z

/-- a new instance, tracked, without attributes -/
theorem Inv.made (I : Inv X pins σ H s) : Inv X pins σ (upd (upd H s.heap.objs.size (.own (s.heap.objs.size + 1))) (s.heap.objs.size + 1) (.ins C s.heap.objs.size []))
    { s with heap := (s.heap.push PySem.W.emptyDict).push (PySem.W.instObj C s.heap.objs.size) } := by
  have e1 : (s.heap.push PySem.W.emptyDict).get? s.heap.objs.size = some PySem.W.emptyDict := Heap.get?_push_size s.heap rfl
  have e2 : ((s.heap.push PySem.W.emptyDict).push (PySem.W.instObj C s.heap.objs.size)).get? (s.heap.objs.size + 1) = some (PySem.W.instObj C s.heap.objs.size) := by
    have := Heap.get?_push_size (s.heap.push PySem.W.emptyDict) (o := PySem.W.instObj C s.heap.objs.size) rfl
    rwa [Heap.size_push] at this
  have e3 : (s.heap.push PySem.W.emptyDict).Ns s.heap.objs.size (fun _ => none) := ⟨PySem.W.emptyDict, #[], _, e1, rfl, (fun e he => absurd he (by simp)), fun _ => rfl⟩
  have I1 := I.laid (a := s.heap.objs.size) (o := .own (s.heap.objs.size + 1)) (h' := s.heap.push PySem.W.emptyDict) (t' := s.toks) (fun b u q => Heap.get?_push_of_some _ q) (Nat.le_refl _) ⟨_, e1⟩
  refine I1.laid (a := s.heap.objs.size + 1) (o := .ins C s.heap.objs.size []) (t' := s.toks) (fun b u q => Heap.get?_push_of_some _ q) (Nat.le_of_eq (Heap.size_push _ _)) ?_
  have ne : s.heap.objs.size ≠ s.heap.objs.size + 1 := Nat.ne_of_lt (Nat.lt_succ_self _)
  refine ⟨by rw [upd_ne ne, upd_same], Nat.zero_le _, ne, e2, fun _ => none, (Heap.Ns1.of_empty e3).at fun o q => Heap.get?_push_of_some _ q, fun _ => True.intro, fun y hy => absurd rfl hy⟩

/-- e.f where nothing but the object is asked: through attributeBase (super) and the last hold -/
theorem attr_of {prog : Program} {w : World} {env : Env} {e : Expr} {f : Str} {pos : Pos} {s : Shared} {Q : Value → Shared → Prop} (hb : attributeBase e f env (eval e env) = eval e env)
    (h : wpAny (model prog w) A (eval e env) (fun o s₁ => wpAny (model prog w) A (getAttr o f true) Q E s₁) E s) : wpAny (model prog w) A (eval (.Attribute e f pos) env) Q E s :=
  Attribute_any_ h (by rw [arm_eval_Attribute, hb])
end

/-! ### readings and rules -/
/-- e.f, an attribute of the instance -/
def tFld (K : PySem.W.Frag) (ta : TE) (f : Str) : TE := fun σ H Q => ta σ H fun x H1 => ∃ a C dx fs v, x = .ref a ∧ H1 a = some (.ins C dx fs) ∧ Cls K C ∧ NoAttr K C f ∧ fs.lookup f = some v ∧ Q v H1
/-- e.f = value -/
def sFld (K : PySem.W.Frag) (ta tv : TE) (f : Str) : TS := fun D σ H => tv σ H fun y H1 => ta σ H1 fun x H2 => ∃ a C dx fs, x = .ref a ∧ H2 a = some (.ins C dx fs) ∧ Cls K C ∧ NoAttr K C f ∧ fs.length < 1000 ∧
  D.nx σ (upd H2 a (.ins C dx (putF f y fs)))

section
variable {X : Cx} {o e value : Expr} {f : Str} {pos pos' tpos : Pos} {ta tv : TE}
theorem pe_fld (he : PE X e ta) (hb : attributeBase e f X.env (eval e X.env) = eval e X.env) : PE X (.Attribute e f pos) (tFld X.K ta f) := by
  intro pins s σ H Q I h
  refine attr_of hb (thn (he pins s σ H _ I h) fun u s1 ⟨x, H1, I1, rx, a, C, dx, fs, v, ex, ea, c, n, l, q⟩ => ?_)
  subst ex
  obtain rfl : u = Value.ref a := rx
  exact getattr_ok I1 ea c n l fun u' s2 I2 ru => ⟨v, H1, I2, ru, q⟩
theorem ps_fld (ha : PE X o ta) (hv : PE X value tv) (hs : swapsWith value (some (.Attribute o f pos')) pos.line X.env = pure false) : PS X (.Assign [.Attribute o f pos'] value pos) (sFld X.K ta tv f) := by
  intro pins s σ H D I h
  refine plainObj_wpAny_Assign_Attribute (thn (hv pins s σ H _ I h) fun u s1 ⟨y, H1, I1, ry, q⟩ => thn (ha pins s1 σ H1 _ I1 q) fun ov s2 ⟨x, H2, I2, rx, a, C, dx, fs, ex, ea, c, n, l, q2⟩ => ?_) hs
  subst ex
  obtain rfl : ov = Value.ref a := rx
  exact setattr_ok I2 ea c n l ry fun s3 I3 => ⟨σ, _, I3, q2⟩

end

/-! ### isinstance -/
section
variable {X : Cx} {pins : List (Addr × Obj)} {σ : St} {H : Hp} {s : Shared} {A : Around} {E : Value → Shared → Prop} {Q : Value → Shared → Prop} {c : Value} {b : Bool}
/-- the type of a value, as the fragment's deciders take it; for an instance its class -/
inductive TyOf (K : PySem.W.Frag) (H : Hp) : V → Value → Prop where
  | non : TyOf K H .non (.type "NoneType")
  | bl (x : Bool) : TyOf K H (.bl x) (.type "bool")
  | int (i : Int) : TyOf K H (.int i) (.type "int")
  | str (x : Str) : TyOf K H (.str x) (.type "str")
  | flt (x : UInt64) : TyOf K H (.flt x) (.type "float")
  | lst {a : Addr} {xs : List V} (e : H a = some (.lst xs)) : TyOf K H (.ref a) (.type "list")
  | frz {a : Addr} {o : Obj} {xs : List V} (e : H a = some (.frz o (.lst xs))) : TyOf K H (.ref a) (.type "list")
  | tup {a : Addr} {xs : List V} (e : H a = some (.tup xs)) : TyOf K H (.ref a) (.type "tuple")
  | dK {a : Addr} {kvs : List (Key × V)} (e : H a = some (.dK kvs)) : TyOf K H (.ref a) (.type "dict")
  | dT {a : Addr} {kvs : List (List Key × V)} (e : H a = some (.dT kvs)) : TyOf K H (.ref a) (.type "dict")
  | ins {a C dx : Addr} {fs : List (Str × V)} (e : H a = some (.ins C dx fs)) (cl : Cls K C) (ha : PySem.W.findIn K (.ref C) "__class__" = some (some (.builtin "object.__class__")))
      (hn : PySem.W.specialIn K (.builtin "object.__class__") "__get__" = some (some (.builtin "getset_descriptor.__get__"))) (htk : PySem.W.takesIn K (.builtin "object.__class__") = some true)
      (hm : PySem.W.mroIn K C (.type "object") = some true) : TyOf K H (.ref a) (.ref C)
/-- isinstance(x, c) for one class c, a built-in or an own one: kitOne's answer -/
theorem isinst_ok {x : V} {u t : Value} (I : Inv X pins σ H s) (rx : RelV x u) (ty : TyOf X.K H x t) (e : PySem.W.kitOne X.K t c = some b) (h : ∀ tk, Q (.bool b) { s with toks := tk }) :
    wpAny (model X.prog X.w) A (call (.builtin "isinstance") [u, c]) Q E s := by
  cases ty with
  | non => cases (show u = Value.none from rx); exact PySem.W.kia_one PySem.W.kitx_none I.kIn True.intro e (fun z => nomatch z) h
  | bl y => cases (show u = Value.bool y from rx); exact PySem.W.kia_one PySem.W.kitx_bool I.kIn True.intro e (fun z => nomatch z) h
  | int i => obtain ⟨t, q⟩ := (show ∃ t, u = Value.int i t from rx); cases q; exact PySem.W.kia_one PySem.W.kitx_int I.kIn True.intro e (fun z => nomatch z) h
  | str y => obtain ⟨t, q⟩ := (show ∃ t, u = Value.str y t from rx); cases q; exact PySem.W.kia_one PySem.W.kitx_str I.kIn True.intro e (fun z => nomatch z) h
  | flt y => obtain ⟨t, q⟩ := (show ∃ t, u = Value.float y t from rx); cases q; exact PySem.W.kia_one PySem.W.kitx_float I.kIn True.intro e (fun z => nomatch z) h
  | @lst a xs ea =>
    cases (show u = Value.ref a from rx)
    obtain ⟨_, _, n, _, h1⟩ := (show ObjOk X.prog X.w H s.heap a (.lst xs) from I.hok a _ ea)
    exact PySem.W.kia_one PySem.W.kitx_list I.kIn ⟨_, h1, rfl⟩ e (fun z => nomatch z) h
  | @frz a ob xs ea =>
    cases (show u = Value.ref a from rx)
    obtain ⟨_, _, _, n, _, h1⟩ := (show ObjOk X.prog X.w H s.heap a (.frz ob (.lst xs)) from I.hok a _ ea)
    exact PySem.W.kia_one PySem.W.kitx_list I.kIn ⟨_, h1, rfl⟩ e (fun z => nomatch z) h
  | @tup a xs ea =>
    cases (show u = Value.ref a from rx)
    obtain ⟨_, _, _, p⟩ := (show ObjOk X.prog X.w H s.heap a (.tup xs) from I.hok a _ ea)
    obtain ⟨o, h1, h2, _⟩ := p
    exact PySem.W.kia_one PySem.W.kitx_tuple I.kIn ⟨o, h1, h2⟩ e (fun z => nomatch z) h
  | @dK a kvs ea =>
    cases (show u = Value.ref a from rx)
    obtain ⟨_, _, vs, _, p⟩ := (show ObjOk X.prog X.w H s.heap a (.dK kvs) from I.hok a _ ea)
    obtain ⟨o, es, ep, h1, h2, _⟩ := p
    exact PySem.W.kia_one PySem.W.kitx_dict I.kIn ⟨o, h1, h2.1⟩ e (fun z => nomatch z) h
  | @dT a kvs ea =>
    cases (show u = Value.ref a from rx)
    obtain ⟨_, _, xs, _, o, es, ep, h1, h2, _⟩ := (show ObjOk X.prog X.w H s.heap a (.dT kvs) from I.hok a _ ea)
    exact PySem.W.kia_one PySem.W.kitx_dict I.kIn ⟨o, h1, h2.1⟩ e (fun z => nomatch z) h
  | @ins a C dx fs ea cl ha hn htk hm =>
    cases (show u = Value.ref a from rx)
    obtain ⟨mA, O, _⟩ := ins_get I.hok ea
    obtain ⟨od, J, _⟩ := O.look
    exact PySem.W.kia_one (PySem.W.kitx_own (cl.get _) cl.hd ha hn htk hm) I.kIn J e (fun z => nomatch z) h
end
end L2

namespace L2
open PySem PySem.Spec PyProof.Rows

/-! ### room -/
structure Room (k : Nat) (A : Around) : Prop where
  hd : A.handled = none
  dp : A.depth + 3 * k + 5 < recursionLimit
  un : A.units + 16 * k + 200 < cLine
theorem Room.mono {j k : Nat} {A : Around} (r : Room k A) (h : j ≤ k) : Room j A := ⟨r.hd, by have := r.dp; omega, by have := r.un; omega⟩
theorem Room.deeper {k : Nat} {A : Around} (r : Room (k + 1) A) (env : Env) : Room k (A.deeper env) :=
  ⟨r.hd, by have := r.dp; show A.depth + 1 + 3 * k + 5 < _; omega, by have := r.un; show A.units + 3 + 16 * k + 200 < _; omega⟩
theorem Room.in1 {k : Nat} {A : Around} (r : Room (k + 1) A) : Room k A.in1 :=
  ⟨r.hd, by have := r.dp; show A.depth + 3 * k + 5 < _; omega, by have := r.un; show A.units + 1 + 16 * k + 200 < _; omega⟩
theorem make_depth {A : Around} {C : Addr} {us : List Value} {kw : List (Str × Value)} : (A.under (.builtin "type.__call__" ⟨.ref C :: us, kw⟩)).depth = A.depth + 1 := by
  first | rfl | simp [Around.under, Code.weight, Code.isCreation, Code.isGuard, Code.isCaller, Code.frames, Code.isFrame, guardIds]
theorem make_units {A : Around} {C : Addr} {us : List Value} {kw : List (Str × Value)} : (A.under (.builtin "type.__call__" ⟨.ref C :: us, kw⟩)).units = A.units + 1 := by
  first | rfl | simp [Around.under, Code.cUnits, Code.frames, Code.isFrame]
theorem Room.make {k : Nat} {A : Around} (r : Room (k + 1) A) (C : Addr) (us : List Value) (kw : List (Str × Value)) : Room k (A.under (.builtin "type.__call__" ⟨.ref C :: us, kw⟩)) :=
  ⟨r.hd, by have := r.dp; rw [make_depth]; omega, by have := r.un; rw [make_units]; omega⟩
theorem Room.depth {k : Nat} {A : Around} (r : Room k A) : A.depth < recursionLimit := by have := r.dp; omega
theorem Room.units {k : Nat} {A : Around} (r : Room k A) : A.units + 64 < cLine := by have := r.un; omega

/-! ### argument lists and displays -/
def tNil : TA := fun _ H Q => Q [] H
def tCons (ta : TE) (tr : TA) : TA := fun σ H Q => ta σ H fun x H1 => tr σ H1 fun xs H2 => Q (x :: xs) H2
section
variable {X : Cx} {e : Expr} {es : List Expr} {te : TE} {t : TA} {pos : Pos}
theorem pa_nil : PA X [] tNil := fun _ _ _ _ H Q I h => Calls.spliced_nil ⟨[], H, I, .nil, h⟩
theorem pa_cons (ha : PE X e te) (hr : PA X es t) (hs : starEach (e :: es) X.env = (false, eval e X.env) :: starEach es X.env := by rfl) : PA X (e :: es) (tCons te t) := by
  intro pos pins s σ H Q I h
  rw [hs]
  show wpAny _ _ (spliced ((false, eval e X.env) :: backTo pos (starEach es X.env))) _ _ s
  refine Calls.spliced_cons (thn (ha pins s σ H _ I h) fun u s1 ⟨x, H1, I1, r1, q1⟩ => ?_)
  exact thn (hr pos pins s1 σ H1 _ I1 q1) fun us s2 ⟨xs, H2, I2, r2, q2⟩ => ⟨x :: xs, H2, I2, .cons r1 r2, q2⟩

/-- a tuple, a list of written items -/
def tTup (t : TA) : TE := fun σ H Q => t σ H fun xs H1 => xs.length ≤ sizeLine ∧ ∀ p, H1 p = none → Q (.ref p) (upd H1 p (.tup xs))
def tLst (t : TA) : TE := fun σ H Q => t σ H fun xs H1 => xs.length ≤ sizeLine ∧ ∀ p, H1 p = none → Q (.ref p) (upd H1 p (.lst xs))
theorem pe_tup {x1} (h : PA X es t) : PE X (.Tuple es x1 pos) (tTup t) := by
  intro pins s σ H Q I hq
  refine wpAny_Tuple_spliced (thn (h pos pins s σ H _ I hq) fun us s1 ⟨xs, H1, I1, r, z, q⟩ => ⟨by rw [← r.length]; exact z, ?_⟩)
  have hf : H1 s1.heap.objs.size = none := I1.hok.fresh (Nat.le_refl _)
  refine ⟨.ref s1.heap.objs.size, upd H1 s1.heap.objs.size (.tup xs), I1.laid (t' := s1.toks) (fun b u e => Heap.get?_push_of_some _ e) (Nat.le_refl _) ?_, rfl, q _ hf⟩
  exact ⟨z, us, r, ⟨_, Heap.get?_push_size _ rfl, rfl, _, rfl⟩⟩
theorem pe_lst (h : PA X es t) : PE X (.List es pos) (tLst t) := by
  intro pins s σ H Q I hq
  refine wpAny_List_spliced (thn (h pos pins s σ H _ I hq) fun us s1 ⟨xs, H1, I1, r, z, q⟩ => ⟨by rw [← r.length]; exact z, ?_⟩)
  have hf : H1 s1.heap.objs.size = none := I1.hok.fresh (Nat.le_refl _)
  refine ⟨.ref s1.heap.objs.size, upd H1 s1.heap.objs.size (.lst xs), I1.laid (t' := s1.toks) (fun b u e => Heap.get?_push_of_some _ e) (Nat.le_refl _) ?_, rfl, q _ hf⟩
  exact ⟨z, us, 0, r, Heap.get?_push_size _ rfl⟩
end

/-! ### what a def promises -/
/-- a def's promise: the bound arguments in the parameters' order, the heap, the wanted end, the wanted exception -/
abbrev Sp := List V → Hp → VK → XK → Prop
/-- how an exception lies behind a call (file 08 gives it): the callers' frames, abstract heap and state ahead of the call, the wish, the exception, the state -/
abbrev CXT := List Env → Hp → Shared → XK → Value → Shared → Prop

/-- the state at a call -/
structure Env0 (P : Program) (w : World) (K : PySem.W.Frag) (mg : Str → Option Value) (base : Heap) (A : Around) (outer : List Env) (s : Shared) (H : Hp) : Prop where
  frames : A.frames = some outer
  mod : Mod K mg base
  bs : ∀ b o, base.get? b = some o → s.heap.get? b = some o ∧ H b = none
  bsz : base.objs.size ≤ s.heap.objs.size
  funs : s.heap.FunFrames base outer
  frf : ∀ b ∈ frs outer, H b = none
  hok : HOk P w H s.heap
  bare : AllBare s.gens
/-- a call's end -/
def CE (outer : List Env) (P : Program) (w : World) (H : Hp) (s : Shared) (Q : VK) (u : Value) (s' : Shared) : Prop :=
  ∃ v H', s'.os = s.os ∧ AllBare s'.gens ∧ Un (frs outer) [] H H' s.heap s'.heap ∧ HOk P w H' s'.heap ∧ RelV v u ∧ Q v H'
def CR (CX : CXT) (outer : List Env) (P : Program) (w : World) (H : Hp) (s : Shared) (Q : VK) (E : XK) (r : Result) (s' : Shared) : Prop :=
  match r with
  | .ok (.ret u) => CE outer P w H s Q u s'
  | .ok _ => False
  | .error e => CX outer H s E e s'
structure FnOk (P : Program) (w : World) (K : PySem.W.Frag) (mg : Str → Option Value) (base : Heap) (CX : CXT) (k : Nat) (f : Addr) (fd : FuncData) (ps : List Str) (sp : Sp) : Prop where
  len : ∀ vs H Q E, sp vs H Q E → vs.length = ps.length
  run : ∀ (A : Around) (outer : List Env) (s : Shared) (H : Hp) (args : Args) (us : List Value) (vs : List V) (Q : VK) (E : XK), Room k A → Env0 P w K mg base A outer s H → BindsTo s fd args (ps.zip us) → Vals vs us → sp vs H Q E →
    codeAny (model P w) A (.call (.ref f) args) (CR CX outer P w H s Q E) s

theorem Env0.make {P : Program} {w : World} {K : PySem.W.Frag} {mg : Str → Option Value} {base : Heap} {A : Around} {outer : List Env} {s : Shared} {H : Hp} (e : Env0 P w K mg base A outer s H) (C : Addr) (us : List Value) (kw : List (Str × Value)) :
    Env0 P w K mg base (A.under (.builtin "type.__call__" ⟨.ref C :: us, kw⟩)) outer s H := ⟨by first | exact e.frames | (simpa [Around.under, Code.envs, Code.isFrame, pushEnvs] using e.frames), e.mod, e.bs, e.bsz, e.funs, e.frf, e.hok, e.bare⟩

section
variable {X : Cx} {pins : List (Addr × Obj)} {σ : St} {H : Hp} {s s' : Shared}
/-- from a body: what a callee wants -/
theorem Inv.env0 (I : Inv X pins σ H s) : Env0 X.prog X.w X.K X.mg X.base X.A X.stack s H :=
  ⟨I.ok.frames, I.ok.mod, I.bs, Nat.le_trans I.ok.bsz I.sz, I.stack, I.stkFree, I.hok, I.bare⟩
/-- behind a call -/
theorem Inv.after {Q : VK} {u : Value} (I : Inv X pins σ H s) (h : CE X.stack X.prog X.w H s Q u s') : EP X pins σ Q u s' := by
  obtain ⟨v, H', os, bare, un, hok, r, q⟩ := h
  obtain ⟨hh, g, d, t, os'⟩ := s'
  obtain rfl : os' = s.os := os
  exact ⟨v, H', I.call (h' := hh) (g' := g) (d' := d) (t' := t) (ch := []) un hok bare (fun b z => absurd z (by simp)), r, q⟩
end

/-! ### calls -/
/-- f(..): the written arguments, then the defaults dvs; E: what is wanted of an exception -/
def tCall (sp : Sp) (dvs : List V) (E : XK) (t : TA) : TE := fun σ H Q => t σ H fun vs H1 => sp (vs ++ dvs) H1 Q E
/-- C(..): a new instance and its dict, then __init__ -/
def tMake (C : Addr) (sp : Sp) (dvs : List V) (E : XK) (t : TA) : TE := fun σ H Q => t σ H fun vs H1 => ∀ x dx, H1 x = none → H1 dx = none → dx ≠ x →
  sp (.ref x :: (vs ++ dvs)) (upd (upd H1 dx (.own x)) x (.ins C dx [])) (fun v H2 => v = .non ∧ Q (.ref x) H2) E

/-- how the parameters are bound: us the positional arguments, kw the keywords' values by name, ds the defaults that fill up -/
def Binds (K : PySem.W.Frag) (fd : FuncData) (ps : List Str) (ds : List Value) : Prop :=
  ∀ (s : Shared) (us : List Value), K.In s.heap → (us ++ ds).length = ps.length → BindsTo s fd ⟨us, []⟩ (ps.zip (us ++ ds))
/-- every parameter is given -/
theorem Binds.all {K : PySem.W.Frag} {fd : FuncData} {ps : List Str} (h : ∀ us : List Value, us.length = ps.length → bindArgs fd ⟨us, []⟩ = pure (ps.zip us)) : Binds K fd ps [] := fun s us _ hl => by
  rw [List.append_nil] at hl ⊢
  exact .of_eq (h us hl)

/-- an exception of a callee reaches what this body wants of exceptions -/
def Passes (CX : CXT) (X : Cx) (E : XK) : Prop := ∀ (pins : List (Addr × Obj)) (σ : St) (H : Hp) (s : Shared) (e : Value) (s' : Shared), Inv X pins σ H s → CX X.stack H s E e s' → X.xe e s'

section
variable {X : Cx} {CX : CXT} {k : Nat} {f C : Addr} {fd : FuncData} {ps : List Str} {sp : Sp} {dvs : List V} {ds : List Value} {E : XK} {x m : Str} {p pos apos : Pos} {e o : Expr} {es : List Expr} {ta : TE} {t : TA}

/-- the callee runs -/
theorem run_fn {pins : List (Addr × Obj)} {σ : St} {H : Hp} {s : Shared} {Q : VK} {us : List Value} {vs : List V} (F : FnOk X.prog X.w X.K X.mg X.base CX k f fd ps sp) (hr : Room k X.A) (hb : Binds X.K fd ps ds) (hd : Vals dvs ds) (hx : Passes CX X E)
    (I : Inv X pins σ H s) (r : Vals vs us) (h : sp (vs ++ dvs) H Q E) : wpAny (model X.prog X.w) X.A (call (.ref f) us) (EP X pins σ Q) X.xe s := by
  have r2 : Vals (vs ++ dvs) (us ++ ds) := r.append hd
  have hl : (us ++ ds).length = ps.length := by rw [← r2.length]; exact F.len _ _ _ _ h
  refine wpAny_call (codeAny_mono (F.run X.A X.stack s H ⟨us, []⟩ (us ++ ds) (vs ++ dvs) Q E hr I.env0 (hb s us I.kIn hl) r2 h) fun r s' hq => ?_)
  cases r with
  | error e => exact hx pins σ H s e s' I hq
  | ok fl =>
    cases fl with
    | ret u => exact I.after hq
    | next => exact False.elim hq
    | brk => exact False.elim hq
    | cont => exact False.elim hq

theorem pe_call (F : FnOk X.prog X.w X.K X.mg X.base CX k f fd ps sp) (hr : Room k X.A) (hg : Gl X x) (hm : X.mg x = some (.ref f)) (hk : PySem.W.keepIn X.K (.ref f) = true) (hb : Binds X.K fd ps ds) (hd : Vals dvs ds) (hx : Passes CX X E)
    (ha : PA X (e :: es) t) (hdb : (x == ("__debug__" : Str)) = false := by decide) (he : starEach (e :: es) X.env = (false, eval e X.env) :: starEach es X.env := by rfl) (hpl : (backTo pos (starEach es X.env)).any (·.1) = false := by rfl) :
    PE X (.Call (.Name x p) (e :: es) [] pos) (tCall sp dvs E t) := by
  intro pins s σ H Q I h
  refine wpAny_Call_Name_kw (ld_glob I hg hm ?_ hdb)
  refine PySem.W.callWith_K (h₀ := X.base) I.ok.mod.kin hk (thn (ha pos pins s σ H _ I h) fun us s1 ⟨vs, H1, I1, r, q⟩ => ⟨I1.kIn, ?_⟩) he hpl
  exact run_fn F hr hb hd hx I1 r q


/-- what a class must have to be made -/
structure Mk (K : PySem.W.Frag) (C f : Addr) : Prop where
  makes : PySem.W.makesIn K C = true
  init : PySem.W.findIn K (.ref C) "__init__" = some (some (.ref f))
  fn : PySem.W.isFn K (.ref f) = true
  kp : PySem.W.keepIn K (.ref C) = true

theorem run_make {pins : List (Addr × Obj)} {σ : St} {H : Hp} {s : Shared} {Q : VK} {us : List Value} {vs : List V} (M : Mk X.K C f) (F : FnOk X.prog X.w X.K X.mg X.base CX k f fd ps sp) (hr : Room (k + 1) X.A) (hb : Binds X.K fd ps ds) (hd : Vals dvs ds)
    (hx : Passes CX X E) (I : Inv X pins σ H s) (r : Vals vs us)
    (h : ∀ x dx, H x = none → H dx = none → dx ≠ x → sp (.ref x :: (vs ++ dvs)) (upd (upd H dx (.own x)) x (.ins C dx [])) (fun v H2 => v = .non ∧ Q (.ref x) H2) E) :
    wpAny (model X.prog X.w) X.A (call (.ref C) us) (EP X pins σ Q) X.xe s := by
  have hq := h (s.heap.objs.size + 1) s.heap.objs.size (I.hok.fresh (Nat.le_succ _)) (I.hok.fresh (Nat.le_refl _)) (Nat.ne_of_lt (Nat.lt_succ_self _))
  have I2 := Inv.made (C := C) I
  have r2 : Vals (V.ref (s.heap.objs.size + 1) :: (vs ++ dvs)) (Value.ref (s.heap.objs.size + 1) :: (us ++ ds)) := .cons rfl (r.append hd)
  have hl : (Value.ref (s.heap.objs.size + 1) :: us ++ ds).length = ps.length := by
    have e := r2.length
    rw [F.len _ _ _ _ hq] at e
    exact e.symm
  refine wpAny_call (make_map (f := f) I.kIn M.makes M.init (beq_iff_eq.mp M.fn) (codeAny_mono (F.run _ X.stack _ _ ⟨Value.ref (s.heap.objs.size + 1) :: us, []⟩ (Value.ref (s.heap.objs.size + 1) :: (us ++ ds)) _ _ E (hr.make C us [])
    (I2.env0.make C us []) (hb _ (Value.ref (s.heap.objs.size + 1) :: us) I2.kIn hl) r2 hq) fun r s' hq' => ?_))
  cases r with
  | error e => exact hx pins σ _ _ e s' I2 hq'
  | ok fl =>
    cases fl with
    | ret u =>
      obtain ⟨v, H', I3, rv, ev, q3⟩ := I2.after hq'
      subst ev
      exact ⟨rv, ⟨V.ref (s.heap.objs.size + 1), H', I3, rfl, q3⟩⟩
    | next => exact False.elim hq'
    | brk => exact False.elim hq'
    | cont => exact False.elim hq'
theorem pe_make (M : Mk X.K C f) (F : FnOk X.prog X.w X.K X.mg X.base CX k f fd ps sp) (hr : Room (k + 1) X.A) (hg : Gl X x) (hm : X.mg x = some (.ref C)) (hb : Binds X.K fd ps ds) (hd : Vals dvs ds) (hx : Passes CX X E)
    (ha : PA X (e :: es) t) (hdb : (x == ("__debug__" : Str)) = false := by decide) (he : starEach (e :: es) X.env = (false, eval e X.env) :: starEach es X.env := by rfl) (hpl : (backTo pos (starEach es X.env)).any (·.1) = false := by rfl) :
    PE X (.Call (.Name x p) (e :: es) [] pos) (tMake C sp dvs E t) := by
  intro pins s σ H Q I h
  refine wpAny_Call_Name_kw (ld_glob I hg hm ?_ hdb)
  refine PySem.W.callWith_K (h₀ := X.base) I.ok.mod.kin M.kp (thn (ha pos pins s σ H _ I h) fun us s1 ⟨vs, H1, I1, r, q⟩ => ⟨I1.kIn, ?_⟩) he hpl
  exact run_make M F hr hb hd hx I1 r q
end

/-! ### keywords -/
section
variable {X : Cx} {CX : CXT} {k : Nat} {f C : Addr} {fd : FuncData} {ps ks : List Str} {sp : Sp} {E : XK} {x m : Str} {p pos apos kpos : Pos} {e o : Expr} {es : List Expr} {kws : List Keyword} {te ta : TE} {t tk : TA} {nm : Option Str}

variable {g : List Value → List Value → List Value} {gV : List V → List V → List V}
end

/-! ### a def's body keeps its promise -/
/-- names: the parameters first -/
structure FnScope (N P : List Str) (sc : Scope) : Prop where
  kind : sc.kind = .function
  co : sc.isCoroutine = false
  gen : sc.isGenerator = false
  nd : N.Nodup
  pre : N.take P.length = P
  par : ∀ x ∈ P, sc.names.lookup x = some .local ∨ sc.names.lookup x = some .cell
  nofree : ∀ y ∈ sc.names, y.2 ≠ .free

theorem bindL_out {kindOf : Str → Option NameKind} {x : Str} : ∀ {binds : List (Str × Value)} {m : Str → Option Value}, (∀ v, (x, v) ∉ binds) → bindL kindOf binds m x = m x
  | [], _, _ => rfl
  | (n, v) :: r, m, h => by
    unfold bindL
    rw [bindL_out fun w hw => h w (List.mem_cons_of_mem _ hw)]
    split
    · have : x ≠ n := by rintro rfl; exact h v List.mem_cons_self
      simp [this]
    · rfl
theorem bindC_out {kindOf : Str → Option NameKind} {x : Str} : ∀ {binds : List (Str × Value)} {m : Str → Option Value}, (∀ v, (x, v) ∉ binds) → bindC kindOf binds m x = m x
  | [], _, _ => rfl
  | (n, v) :: r, m, h => by
    unfold bindC
    rw [bindC_out fun w hw => h w (List.mem_cons_of_mem _ hw)]
    split
    · rfl
    · have : x ≠ n := by rintro rfl; exact h v List.mem_cons_self
      simp [this]
theorem bindL_get {kindOf : Str → Option NameKind} {x : Str} {v : Value} : ∀ {P : List Str} {vs : List Value} {i : Nat} {m : Str → Option Value}, P.Nodup → P[i]? = some x → vs[i]? = some v → kindOf x = some .local →
    bindL kindOf (P.zip vs) m x = some v
  | [], _, _, _, _, h, _, _ => by simp at h
  | _ :: _, [], _, _, _, _, h, _ => by simp at h
  | p :: P, w :: vs, 0, m, nd, h1, h2, hk => by
    simp at h1 h2; subst h1; subst h2
    show bindL kindOf ((p, w) :: P.zip vs) m p = _
    unfold bindL
    rw [bindL_out fun v hv => (List.nodup_cons.mp nd).1 (List.of_mem_zip hv).1, if_pos hk]
    simp
  | p :: P, w :: vs, i + 1, m, nd, h1, h2, hk => by
    show bindL kindOf ((p, w) :: P.zip vs) m x = _
    unfold bindL
    exact bindL_get (i := i) (List.nodup_cons.mp nd).2 (by simpa using h1) (by simpa using h2) hk
theorem bindC_get {kindOf : Str → Option NameKind} {x : Str} {v : Value} : ∀ {P : List Str} {vs : List Value} {i : Nat} {m : Str → Option Value}, P.Nodup → P[i]? = some x → vs[i]? = some v → kindOf x ≠ some .local →
    bindC kindOf (P.zip vs) m x = some v
  | [], _, _, _, _, h, _, _ => by simp at h
  | _ :: _, [], _, _, _, _, h, _ => by simp at h
  | p :: P, w :: vs, 0, m, nd, h1, h2, hk => by
    simp at h1 h2; subst h1; subst h2
    show bindC kindOf ((p, w) :: P.zip vs) m p = _
    unfold bindC
    rw [bindC_out fun v hv => (List.nodup_cons.mp nd).1 (List.of_mem_zip hv).1, if_neg hk]
    simp
  | p :: P, w :: vs, i + 1, m, nd, h1, h2, hk => by
    show bindC kindOf ((p, w) :: P.zip vs) m x = _
    unfold bindC
    exact bindC_get (i := i) (List.nodup_cons.mp nd).2 (by simpa using h1) (by simpa using h2) hk

/-- the names' values at the entry -/
def start (N : List Str) (vs : List V) : St := vs.map some ++ List.replicate (N.length - vs.length) none

/-- the context of a def's body, at its entry; an exception leaves the frame, then lies as CX says -/
def cxOf (CX : CXT) (P : Program) (w : World) (K : PySem.W.Frag) (mg : Str → Option Value) (base : Heap) (N : List Str) (qual : Str) (scope : Scope) (f : Addr) (cd : Value) (A : Around) (outer : List Env) (s : Shared) (H : Hp) (E : XK) : Cx where
  prog := P
  w := w
  K := K
  mg := mg
  base := base
  A := A.deeper (envOfC qual scope s.heap.objs.size f cd)
  N := N
  s₀ := s
  H₀ := H
  env := envOfC qual scope s.heap.objs.size f cd
  outer := outer
  stack := envOfC qual scope s.heap.objs.size f cd :: outer
  ex := []
  calm := true
  fn := fun _ => true
  pn := []
  xe := fun e s' => wpAny (model P w) (A.deeper (envOfC qual scope s.heap.objs.size f cd)) (leaving (envOfC qual scope s.heap.objs.size f cd) e) (fun _ s'' => CX outer H s E e s'') (fun e' s'' => CX outer H s E e' s'') s'

theorem cell_has {sc : Scope} {n : Nat} {x : Str} (h : sc.names.lookup x = some .cell) : ∃ c, (cellsFrom n sc.names []).lookup x = some c := by
  have q := PySem.W.cellsFrom_some sc.names n [] (.inl h)
  exact Option.isSome_iff_exists.mp q

theorem inv_start {CX : CXT} {P : Program} {w : World} {K : PySem.W.Frag} {mg : Str → Option Value} {base : Heap} {N ps : List Str} {qual : Str} {scope : Scope} {f : Addr} {cd : Value} {A : Around} {outer : List Env} {s s1 : Shared} {H : Hp} {E : XK} {us : List Value} {vs : List V}
    (S : FnScope N ps scope) (hd : A.handled = none) (e0 : Env0 P w K mg base A outer s H) (hl : vs.length = ps.length) (r : Vals vs us)
    (x : InCallC s s.heap.objs.size (bindL (envOfC qual scope s.heap.objs.size f cd).kindOf (ps.zip us) fun _ => none) (cellsFrom (s.heap.objs.size + 1) scope.names []) (bindC (envOfC qual scope s.heap.objs.size f cd).kindOf (ps.zip us) fun _ => none) s1) :
    Inv (cxOf CX P w K mg base N qual scope f cd A outer s H E) [] (start N vs) H s1 := by
  have hpl : ps.length ≤ N.length := by have := congrArg List.length S.pre; rw [List.length_take] at this; omega
  obtain ⟨h1, tk, rfl, hk⟩ := x.done
  have noA : ∀ b : Addr, b ∉ (cxOf CX P w K mg base N qual scope f cd A outer s H E).ex := fun b z => absurd (show b ∈ ([] : List Addr) from z) (by simp)
  refine ⟨⟨e0.mod, S.kind, rfl, rfl, Nat.le_refl _, fun y z c h1 h2 => ?_, fun y hy => ?_, fun y c _ h => ?_, fun _ => hd, Around.frames_deeper e0.frames, .inr ⟨rfl, rfl⟩, fun b z => absurd z (noA b), e0.bs, e0.bsz, fun b _ _ => noA b, fun b z => absurd z (noA b), e0.funs, e0.frf⟩,
    rfl, e0.bare, Un.kept hk, ⟨_, x.toInCall.ns, fun i y v h1 h2 h3 => ?_⟩, fun y c h => ⟨_, x.cell y c h⟩, e0.hok.fresh (Nat.le_refl _), fun y c h => ?_, fun p hp => absurd (show p ∈ ([] : List (Addr × Obj)) from hp) (by simp), e0.hok.kept hk, ?_⟩
  · exact name_of_addr x.apart (PySem.mem_of_lookup h1) (PySem.mem_of_lookup h2)
  · have hy : scope.names.lookup y = some .cell ∨ scope.names.lookup y = some .free := hy
    rcases hy with hy | hy
    · exact cell_has hy
    · exact absurd rfl (S.nofree _ (PySem.mem_of_lookup hy))
  · exact Nat.le_of_lt (x.above y c (PySem.mem_of_lookup h))
  · have hi : i < vs.length := by
      unfold start at h2
      by_cases hi : i < vs.length
      · exact hi
      · rw [List.getElem?_append_right (by simpa using hi)] at h2
        rw [List.getElem?_replicate] at h2
        split at h2 <;> cases h2
    have ha : vs[i]? = some v := by
      unfold start at h2
      rw [List.getElem?_append_left (by simpa using hi), List.getElem?_map] at h2
      cases e : vs[i]? with
      | none => rw [e] at h2; cases h2
      | some a => rw [e] at h2; cases h2; rfl
    obtain ⟨u, hu, rv⟩ := r.get ha
    have hp : ps[i]? = some y := by
      rw [← S.pre, List.getElem?_take_of_lt (by omega)]; exact h1
    have ndP : ps.Nodup := by rw [← S.pre]; exact S.nd.sublist (List.take_sublist _ _)
    refine ⟨u, rv, ?_⟩
    rcases S.par y (List.mem_of_getElem? hp) with k | k
    · exact .inl ⟨k, bindL_get ndP hp hu k⟩
    · obtain ⟨c, e⟩ := cell_has (n := s.heap.objs.size + 1) k
      refine .inr ⟨.inl k, c, e, ?_⟩
      have q := x.cell y c e
      rw [bindC_get ndP hp hu (by show scope.names.lookup y ≠ _; rw [k]; decide)] at q
      exact q
  · exact e0.hok.fresh (Nat.le_of_lt (x.above y c (PySem.mem_of_lookup h)))
  · unfold start
    show _ = N.length
    rw [List.length_append, List.length_map, List.length_replicate]
    omega

/-- THE RULE: a def (or a method) of the text, by its body. The body's reading t is chosen for each entry; it is run at the parameters' values -/
theorem fn_of {CX : CXT} {P : Program} {w : World} {K : PySem.W.Frag} {mg : Str → Option Value} {base : Heap} {k : Nat} {f : Addr} {name qual : Str} {params : Arguments} {body : List Stmt} {scope : Scope} {dV kV doc pm cdv ct oc : Value} {an od : Option Addr}
    {osl : Array (Option Value)} {N ps : List Str} {sp : Sp} (lk : K.lookup f = some ⟨oc, od, .func (PySem.W.fnOf name qual params body scope dV kV doc pm an cdv ct), osl⟩) (hcd : PySem.W.codeIn K cdv qual = true) (S : FnScope N ps scope)
    (len : ∀ vs H Q E, sp vs H Q E → vs.length = ps.length)
    (hbody : ∀ (A : Around) (outer : List Env) (s : Shared) (H : Hp) (vs : List V) (Q : VK) (E : XK), Room k (A.deeper (envOfC qual scope s.heap.objs.size f cdv)) → sp vs H Q E →
      ∃ t, PSs (cxOf CX P w K mg base N qual scope f cdv A outer s H E) body t ∧ t { nx := fun _ H' => Q .non H', rt := Q } (start N vs) H) :
    FnOk P w K mg base CX (k + 1) f (PySem.W.fnOf name qual params body scope dV kV doc pm an cdv ct) ps sp := by
  refine ⟨len, fun A outer s H args us vs Q E hr e0 hb r hsp => ?_⟩
  have hl := len _ _ _ _ hsp
  have KX : K.In s.heap := e0.mod.kin.keeps fun b o e => (e0.bs b o e).1
  have lim : s.heap.NoLimit := e0.mod.nolimit.keeps fun b o e => (e0.bs b o e).1
  have hkind : ∀ y ∈ ps.zip us, scope.names.lookup y.1 = some .local ∨ (scope.names.lookup y.1 = some .cell ∧ ((cellsFrom (s.heap.objs.size + 1) scope.names []).lookup y.1).isSome = true) := fun ⟨n, v⟩ hy => by
    rcases S.par n (List.of_mem_zip hy).1 with q | q
    · exact .inl q
    · exact .inr ⟨q, PySem.W.cellsFrom_some _ _ _ (.inl q)⟩
  refine codeAny_call_function hr.depth (KX _ _ lk) rfl S.co S.gen rfl (PySem.W.codeRec_of KX hcd) (hb _ _ _ _ ?_)
  refine wpAny_newFunctionEnv_cells S.kind hkind fun env he s1 x => ?_
  subst he
  refine ⟨lim.keeps x.toInCall.keep, codeAny_func ?_⟩
  obtain ⟨t, ht, hq⟩ := hbody A outer s H vs Q E (hr.deeper _) hsp
  have I : Inv (cxOf CX P w K mg base N qual scope f cdv A outer s H E) [] (start N vs) H s1 := inv_start S hr.hd e0 hl r x
  refine wpAny_mono (ht [] s1 (start N vs) H _ I hq) (fun fl s' hs => ?_) fun e s' hs => hs
  have fin : ∀ {σ' : St} {H' : Hp} {v : V} {u : Value}, Inv (cxOf CX P w K mg base N qual scope f cdv A outer s H E) [] σ' H' s' → RelV v u → Q v H' → CE outer P w H s Q u s' :=
    fun {σ' H' v u} J rv q => ⟨v, H', J.os, J.bare, J.base, J.hok, rv, q⟩
  cases fl with
  | ret u =>
    obtain ⟨v, σ', H', J, rv, q⟩ := hs
    exact fin J rv q
  | next =>
    obtain ⟨σ', H', J, q⟩ := hs
    exact fin (v := V.non) (u := Value.none) J rfl q
  | brk =>
    obtain ⟨_, _, _, q⟩ := hs
    exact False.elim q
  | cont =>
    obtain ⟨_, _, _, q⟩ := hs
    exact False.elim q
end L2

namespace L2
open PySem PySem.Spec PyProof.Rows
section
variable {X : Cx} {x : Str} {p pos : Pos} {e : Expr} {es : List Expr} {t : TA} {id T : String} {r : List V → Hp → VK → Prop}

def tCB (r : List V → Hp → VK → Prop) (t : TA) : TE := fun σ H Q => t σ H fun vs H1 => r vs H1 Q
/-- f(e, ..), f a built-in function -/
theorem pe_callB (hc : CallR X (.builtin id) r) (hg : Gl X x) (hm : X.mg x = none) (hv : bootBuiltins x = some (.builtin id)) (ha : PA X (e :: es) t) (hn : x ≠ "__name__" := by decide) (hdb : (x == ("__debug__" : Str)) = false := by decide)
    (he : starEach (e :: es) X.env = (false, eval e X.env) :: starEach es X.env := by rfl) (hpl : (backTo pos (starEach es X.env)).any (·.1) = false := by rfl) : PE X (.Call (.Name x p) (e :: es) [] pos) (tCB r t) := by
  intro pins s σ H Q I h
  refine wpAny_Call_Name_kw (ld_blt I hg hm hv ?_ hn hdb)
  exact PyProof.Rows.callWith_builtin1 (thn (ha pos pins s σ H _ I h) fun us s1 ⟨vs, H1, I1, r1, q1⟩ => hc pins s1 σ H1 vs us Q I1 r1 q1) he hpl
/-- T(e, ..), T a built-in type -/
theorem pe_callTy (hc : CallR X (.type T) r) (hg : Gl X x) (hm : X.mg x = none) (hv : bootBuiltins x = some (.type T)) (ha : PA X (e :: es) t) (hn : x ≠ "__name__" := by decide) (hdb : (x == ("__debug__" : Str)) = false := by decide)
    (he : starEach (e :: es) X.env = (false, eval e X.env) :: starEach es X.env := by rfl) (hpl : (backTo pos (starEach es X.env)).any (·.1) = false := by rfl) : PE X (.Call (.Name x p) (e :: es) [] pos) (tCB r t) := by
  intro pins s σ H Q I h
  refine wpAny_Call_Name_kw (ld_blt I hg hm hv ?_ hn hdb)
  exact PyProof.Rows.callWith_type1 (thn (ha pos pins s σ H _ I h) fun us s1 ⟨vs, H1, I1, r1, q1⟩ => hc pins s1 σ H1 vs us Q I1 r1 q1) he hpl
end
end L2

namespace HT
open PySem PyProof.Rows

/-- t < u of tuples of ints -/
def lexLt : List Int → List Int → Bool
  | [], [] => false
  | [], _ :: _ => true
  | _ :: _, [] => false
  | x :: xs, y :: ys => if x = y then lexLt xs ys else decide (x < y)
theorem lexLt_cons (x y : Int) (xs ys : List Int) : lexLt (x :: xs) (y :: ys) = if x = y then lexLt xs ys else decide (x < y) := rfl
theorem lexLt_nil_nil : lexLt [] [] = false := rfl


section
open PySem.SeqAt
open PySem.AutoSeq1 (wpAny_loadPart')
open PySem.MeetsSeq PySem.MeetsSeq2 PySem.MeetsSeq3

end

section
variable {prog : Program} {w : World} {A : Around} {E : Value → Shared → Prop} {s : Shared}



/-! ### t[a:b], not the whole -/
/-- a slice's bound as a place among n (d where it is left out) -/
def sIx (n d : Nat) : Option Int → Nat
  | none => d
  | some v => if v < 0 then (v + (n : Int)).toNat else min v.toNat n

end
end HT

namespace L2
open PySem PySem.Spec PyProof.Rows

/-! ### the parts of a slice -/
abbrev TO := St → Hp → (Option Int → Hp → Prop) → Prop
/-- a slice's part (left out, or an int) -/
def PO (X : Cx) (e : Option Expr) (t : TO) : Prop :=
  ∀ (pins : List (Addr × Obj)) (s : Shared) (σ : St) (H : Hp) (Q : Option Int → Hp → Prop), Inv X pins σ H s → t σ H Q →
    wpAny (model X.prog X.w) X.A (evalPart e X.env) (fun u s' => ∃ o H', Inv X pins σ H' s' ∧ IsPart u o ∧ Q o H') X.xe s
def tNoPart : TO := fun _ H Q => Q none H
def tPart (t : TE) : TO := fun σ H Q => t σ H fun x H1 => ∃ i, x = .int i ∧ Q (some i) H1

theorem intsAre_of {ns : List Int} : ∀ {us : List Value}, Vals (ns.map V.int) us → IntsAre us ns := by
  induction ns with
  | nil => intro us r; rw [List.map_nil] at r; cases r; exact .nil
  | cons n ns ih =>
    intro us r
    rw [List.map_cons] at r
    cases r with
    | cons r1 r2 =>
      obtain ⟨t, e⟩ := r1
      subst e
      exact .cons n t (ih r2)

section
variable {X : Cx} {e : Expr} {te : TE} {lo hi : Option Expr} {tl th : TO} {pos p2 : Pos}

theorem po_none : PO X none tNoPart := by
  intro pins s σ H Q I h
  rw [evalPart_none]
  exact wpAny_pure ⟨none, H, I, .none, h⟩
theorem po_some (h : PE X e te) : PO X (some e) (tPart te) := by
  intro pins s σ H Q I hw
  rw [evalPart_some]
  refine thn (h pins s σ H _ I hw) fun u s1 ⟨x, H1, I1, r1, q1⟩ => ?_
  obtain ⟨i, rfl, q⟩ := q1
  obtain ⟨t, rfl⟩ := r1
  exact ⟨some i, H1, I1, .int i t, q⟩

/-- what a slice of a value is, by values: the slice object stands at sl -/
def SlR (X : Cx) (r : V → Option Int → Option Int → Hp → VK → Prop) : Prop :=
  ∀ (pins : List (Addr × Obj)) (s : Shared) (σ : St) (H : Hp) (x : V) (v vl vu : Value) (lo hi : Option Int) (sl : Addr) (Q : VK), Inv X pins σ H s → RelV x v → s.heap.IsSliceOf sl vl vu .none → IsPart vl lo → IsPart vu hi → r x lo hi H Q →
    ∃ T id, typeLookup (.type T) "__getitem__" = pure (some (.builtin id)) ∧ s.TypeIs v T ∧ wpAny (model X.prog X.w) X.A (getItem v (.ref sl)) (EP X pins σ Q) X.xe s
def tSl (r : V → Option Int → Option Int → Hp → VK → Prop) (te : TE) (tl th : TO) : TE := fun σ H Q => te σ H fun x H1 => tl σ H1 fun l H2 => th σ H2 fun u H3 => r x l u H3 Q
/-- a[lo:hi], any a -/
theorem pe_slice {r : V → Option Int → Option Int → Hp → VK → Prop} (hr : SlR X r) (he : PE X e te) (hl : PO X lo tl) (hu : PO X hi th) : PE X (.Subscript e (.Slice lo hi none p2) pos) (tSl r te tl th) := by
  intro pins s σ H Q I h
  refine Subscript_ (thn (he pins s σ H _ I h) fun v s1 ⟨x, H1, I1, r1, q1⟩ => ?_)
  refine wpAny_Slice (thn (hl pins s1 σ H1 _ I1 q1) fun vl s2 ⟨l, H2, I2, pl, q2⟩ => thn (hu pins s2 σ H2 _ I2 q2) fun vu s3 ⟨u, H3, I3, pu, q3⟩ => ?_)
  rw [evalPart_none]
  refine wpAny_pure ?_
  have I4 : Inv X pins σ H3 { s3 with heap := s3.heap.push { cls := .type "slice", data := .fields #[vl, vu, .none] } } := I3.kept (t' := s3.toks) fun b ob q => Heap.get?_push_of_some _ q
  obtain ⟨T, id, hT, ht, hg⟩ := hr pins { s3 with heap := s3.heap.push { cls := .type "slice", data := .fields #[vl, vu, .none] } } σ H3 x v vl vu l u s3.heap.objs.size Q I4 r1 (Heap.IsSliceOf.new ..) pl pu q3
  show wpAny (model X.prog X.w) X.A (subscriptTail e (.Slice lo hi none p2) v (.ref s3.heap.objs.size)) (EP X pins σ Q) X.xe { s3 with heap := s3.heap.push { cls := .type "slice", data := .fields #[vl, vu, .none] } }
  exact tail_any (ops := [.ref s3.heap.objs.size, v]) ht hT hg (by with_unfolding_all rfl)

/-- the items of xs[lo:hi] -/
def cutV (xs : List V) (lo hi : Option Int) : List V := (xs.drop (HT.sIx xs.length 0 lo)).take (HT.sIx xs.length xs.length hi - HT.sIx xs.length 0 lo)
theorem cutV_length (xs : List V) (lo hi : Option Int) : (cutV xs lo hi).length ≤ xs.length := by
  unfold cutV
  rw [List.length_take, List.length_drop]
  omega

/-! ### t < u, t + u -/
end
end L2

namespace L2
open PySem PySem.Spec PyProof.Rows

/-! ### places -/
/-- the place that an index of any sign means -/
def ixN (n : Nat) (i : Int) : Option Nat := if 0 ≤ i then (if i < n then some i.toNat else none) else if -(n : Int) ≤ i then some (i + n).toNat else none
def atI {α : Type} (xs : List α) (i : Int) : Option α := (ixN xs.length i).bind fun j => xs[j]?
theorem ixN_seq {n : Nat} {i : Int} {j : Nat} (h : ixN n i = some j) : seqIndex? i n = some j ∧ j < n ∧ -(n : Int) ≤ i ∧ i < n := by
  unfold ixN at h
  by_cases h0 : 0 ≤ i
  · rw [if_pos h0] at h
    by_cases h1 : i < n
    · rw [if_pos h1] at h
      have e : i.toNat = j := Option.some.inj h
      exact ⟨by rw [seqIndex_of h0 h1, e], by omega, by omega, h1⟩
    · rw [if_neg h1] at h; cases h
  · rw [if_neg h0] at h
    by_cases h1 : -(n : Int) ≤ i
    · rw [if_pos h1] at h
      have e : (i + n).toNat = j := Option.some.inj h
      exact ⟨by rw [seqIndex_neg (by omega) h1, e], by omega, h1, by omega⟩
    · rw [if_neg h1] at h; cases h
theorem atI_get {α : Type} {xs : List α} {i : Int} {v : α} (h : atI xs i = some v) : ∃ j, seqIndex? i xs.length = some j ∧ xs[j]? = some v ∧ j < xs.length ∧ -(xs.length : Int) ≤ i ∧ i < xs.length := by
  unfold atI at h
  cases e : ixN xs.length i with
  | none => rw [e] at h; cases h
  | some j =>
    rw [e] at h
    obtain ⟨h1, h2, h3, h4⟩ := ixN_seq e
    exact ⟨j, h1, h, h2, h3, h4⟩
theorem atI_nat {α : Type} {xs : List α} {j : Nat} {v : α} (h : xs[j]? = some v) : atI xs (j : Int) = some v := by
  have hj : j < xs.length := (List.getElem?_eq_some_iff.mp h).1
  have e : ixN xs.length (j : Int) = some j := by
    unfold ixN
    rw [if_pos (by omega), if_pos (by omega)]; simp
  unfold atI; rw [e]; exact h

/-! ### what may be subscripted -/
/-- what stands as an index of a plain subscript -/
def PlainIx (b : Expr) : Prop := ∀ o i, subscripted b false o i = operate [o, i] (getItem o i)
/-- a subscript by values -/
def IxR (X : Cx) (r : R2) : Prop :=
  ∀ (value slice : Expr) (pins : List (Addr × Obj)) (s : Shared) (σ : St) (H : Hp) (x y : V) (v u : Value) (Q : VK), Inv X pins σ H s → RelV x v → RelV y u → r x y H Q →
    subscripted slice false v u = operate [v, u] (getItem v u) → wpAny (model X.prog X.w) X.A (subscriptTail value slice v u) (EP X pins σ Q) X.xe s
/-- a call of a builtin's method by values: the receiver, the arguments -/
def MtR (X : Cx) (id : String) (r : V → List V → Hp → VK → Prop) : Prop :=
  ∀ (pins : List (Addr × Obj)) (s : Shared) (σ : St) (H : Hp) (x : V) (xs : List V) (v : Value) (us : List Value) (Q : VK), Inv X pins σ H s → RelV x v → Vals xs us → r x xs H Q →
    wpAny (model X.prog X.w) X.A (call (.builtin id) (v :: us)) (EP X pins σ Q) X.xe s
section
variable {X : Cx} {a b : Expr} {ta tb : TE} {pos : Pos}
/-- a[b] -/
theorem pe_ix {r : R2} (hr : IxR X r) (ha : PE X a ta) (hb : PE X b tb) (hs : PlainIx b) : PE X (.Subscript a b pos) (tOp r ta tb) := by
  intro pins s σ H Q I h
  exact Subscript_ (binT ha hb I h fun v u s2 x y H2 I2 rx ry q => hr a b pins s2 σ H2 x y v u Q I2 rx ry q (hs _ _))

def rIxL (K : PySem.W.Frag) : R2 := fun x y H Q => ∃ p xs i v, x = .ref p ∧ y = .int i ∧ SqL K H p xs ∧ atI xs i = some v ∧ Q v H
def rIxT (K : PySem.W.Frag) : R2 := fun x y H Q => ∃ p xs i v, x = .ref p ∧ y = .int i ∧ SqT K H p xs ∧ atI xs i = some v ∧ Q v H
theorem ix_list : IxR X (rIxL X.K) := by
  intro value slice pins s σ H x y v u Q I rx ry h hs
  obtain ⟨p, xs, i, z, rfl, rfl, hq, he, q⟩ := h
  cases rx
  obtain ⟨t, rfl⟩ := ry
  obtain ⟨its, r, pl, hz⟩ := I.list hq
  obtain ⟨j, h1, h2, h3, h4, h5⟩ := atI_get he
  obtain ⟨w, ew, rw'⟩ := r.get h2
  have hl := r.length
  have hn := line63
  have fin : EP X pins σ Q w s := ⟨z, H, I, rw', q⟩
  by_cases h0 : 0 ≤ i
  · have hj : i.toNat = j := by
      rw [seqIndex_of h0 h5] at h1
      exact Option.some.inj h1
    exact item_listR pl.isList h0 (by omega) (by rw [hj]; simpa using ew) fin hs
  · have hj : (i + (its.toArray.size : Int)).toNat = j := by
      rw [seqIndex_neg (by omega) h4] at h1
      rw [List.size_toArray, ← hl]
      exact Option.some.inj h1
    exact subscriptTail_builtinR (x := w) pl.isList.typeIs slot_list_getitem.lookup
      (wpAny_getItem_list_neg (Q := fun r s' => r = w ∧ EP X pins σ Q r s') pl.isList (by omega) (by rw [List.size_toArray] <;> omega) (by omega) (by rw [hj]; simpa using ew) ⟨rfl, fin⟩) hs
theorem ix_tup : IxR X (rIxT X.K) := by
  intro value slice pins s σ H x y v u Q I rx ry h hs
  obtain ⟨p, xs, i, z, rfl, rfl, hq, he, q⟩ := h
  cases rx
  obtain ⟨t, rfl⟩ := ry
  obtain ⟨its, r, pl, hz⟩ := I.tuple hq
  obtain ⟨j, h1, h2, h3, h4, h5⟩ := atI_get he
  obtain ⟨w, ew, rw'⟩ := r.get h2
  have hl := r.length
  have hn := line63
  have fin : EP X pins σ Q w s := ⟨z, H, I, rw', q⟩
  exact subscriptTail_builtinR (x := w) pl.typeIs slot_tuple_getitem.lookup
    (getItem_tuple (j := j) (Q := fun r s' => r = w ∧ EP X pins σ Q r s') pl (by omega) (by omega) (by rw [List.size_toArray, ← hl]; exact h1) (by simpa using ew) ⟨rfl, fin⟩) hs

/-! ### xs[i] = v, any sign -/
/-- the list's object behind a store -/
theorem mapSeq_set (its : List Value) (n j : Nat) (u : Value) : Obj.mapSeq (·.setIfInBounds j u) { cls := .type "list", data := .seq its.toArray n } = { cls := .type "list", data := .seq (its.set j u).toArray n } := by
  simp [Obj.mapSeq]
theorem Inv.lst {pins : List (Addr × Obj)} {σ : St} {H : Hp} {s : Shared} {p : Addr} {xs : List V} (I : Inv X pins σ H s) (h : H p = some (.lst xs)) :
    ∃ (its : List Value) (n : Nat), Vals xs its ∧ s.heap.get? p = some { cls := .type "list", data := .seq its.toArray n } ∧ xs.length ≤ sizeLine := by
  obtain ⟨z, its, n, r, e⟩ := I.hok p _ h
  exact ⟨its, n, r, e, z⟩
/-- the list at p is written by an update of its object -/
theorem Inv.lstUpd {pins : List (Addr × Obj)} {σ : St} {H : Hp} {s : Shared} {p : Addr} {xs ys : List V} {its its' : List Value} {n n' : Nat} {f : Obj → Obj} (I : Inv X pins σ H s) (h : H p = some (.lst xs))
    (ho : s.heap.get? p = some { cls := .type "list", data := .seq its.toArray n }) (hf : f { cls := .type "list", data := .seq its.toArray n } = { cls := .type "list", data := .seq its'.toArray n' }) (r : Vals ys its') (hz : ys.length ≤ sizeLine) (t : Nat) :
    Inv X pins σ (upd H p (.lst ys)) { s with heap := s.heap.update p f, toks := t } := by
  have e : (s.heap.update p f).get? p = some { cls := .type "list", data := .seq its'.toArray n' } := by
    rw [Heap.get?_update_self f ho (by rw [hf] <;> rfl), hf]
  refine I.write (x := p) (e := p) (by rw [h]; trivial) (.inl rfl) (fun b u hb q => (Heap.get?_update_other _ _ (Ne.symm hb)).trans q) ⟨_, e⟩ ?_
  exact ⟨hz, its', n', r, e⟩
def rSetL : V → V → V → Hp → (Hp → Prop) → Prop := fun o i v H Q => ∃ p xs k j, o = .ref p ∧ i = .int k ∧ H p = some (.lst xs) ∧ ixN xs.length k = some j ∧ Q (upd H p (.lst (xs.set j v)))
theorem set_list : PSet X rSetL := by
  intro pins s σ H o i v ov iv u Q I ro ri rv h
  obtain ⟨p, xs, k, j, rfl, rfl, hp, hj, q⟩ := h
  cases ro
  obtain ⟨t, rfl⟩ := ri
  obtain ⟨its, n, r, ho, hz⟩ := I.lst hp
  obtain ⟨h1, h2, h3, h4⟩ := ixN_seq hj
  have hl := r.length
  have hn := line63
  have I' : Inv X pins σ (upd H p (.lst (xs.set j v))) { s with heap := s.heap.update p (Obj.mapSeq (·.setIfInBounds j u)) } :=
    I.lstUpd hp ho (mapSeq_set its n j u) (r.set rv j) (by rw [List.length_set]; exact hz) s.toks
  by_cases h0 : 0 ≤ k
  · have hk : k.toNat = j := by
      rw [seqIndex_of h0 h4] at h1
      exact Option.some.inj h1
    exact PySem.W.ki_setAt ho h0 (by omega) (by rw [List.size_toArray, ← hl]; exact h4) (by rw [hk]; exact ⟨_, I', q⟩)
  · have hk : (k + (its.toArray.size : Int)).toNat = j := by
      rw [seqIndex_neg (by omega) h3] at h1
      rw [List.size_toArray, ← hl]
      exact Option.some.inj h1
    exact PySem.W.ki_setBack ho (by omega) (by rw [List.size_toArray, ← hl]; exact h3) (by omega) (by rw [hk]; exact ⟨_, I', q⟩)

/-! ### slices -/
theorem slice_bounds (lo hi : Option Int) (n : Nat) : (sliceBounds lo hi none n).1 = ((HT.sIx n 0 lo : Nat) : Int) ∧ (sliceBounds lo hi none n).2.1 = ((HT.sIx n n hi : Nat) : Int) ∧ (sliceBounds lo hi none n).2.2 = 1 := by
  refine ⟨?_, ?_, rfl⟩
  · cases lo with
    | none => simp [sliceBounds, HT.sIx]
    | some i =>
      simp only [sliceBounds, HT.sIx, Option.getD_none, show (1 : Int) > 0 by decide, if_true]
      by_cases h : i < 0
      · simp only [h, if_true] <;> omega
      · simp only [h, if_false] <;> omega
  · cases hi with
    | none => simp [sliceBounds, HT.sIx]
    | some i =>
      simp only [sliceBounds, HT.sIx, Option.getD_none, show (1 : Int) > 0 by decide, if_true]
      by_cases h : i < 0
      · simp only [h, if_true] <;> omega
      · simp only [h, if_false] <;> omega
theorem slicePick_cut (its : List Value) (lo hi : Option Int) : slicePick its.toArray lo hi none = ((its.drop (HT.sIx its.length 0 lo)).take (HT.sIx its.length its.length hi - HT.sIx its.length 0 lo)).toArray := by
  obtain ⟨h1, h2, h3⟩ := slice_bounds lo hi its.toArray.size
  unfold slicePick
  rw [h1, h2, h3]
  simp only [sliceRange_one, pick_run, List.size_toArray] <;> rfl
/-- xs[lo:hi] of a list: a new list -/
def rSlL (K : PySem.W.Frag) : V → Option Int → Option Int → Hp → VK → Prop := fun x lo hi H Q => ∃ a xs, x = .ref a ∧ SqL K H a xs ∧ ∀ p, H p = none → Q (.ref p) (upd H p (.lst (cutV xs lo hi)))
theorem sl_list : SlR X (rSlL X.K) := by
  intro pins s σ H x v vl vu lo hi sl Q I rx hs pl pu h
  obtain ⟨a, xs, rfl, hx, q⟩ := h
  cases rx
  obtain ⟨its, r, ht, hz⟩ := I.list hx
  have hlen := r.length
  refine ⟨"list", _, slot_list_getitem.lookup, ht.isList.typeIs, ?_⟩
  refine wpAny_getItem_list_slice ht.isList hs pl pu .none (by simp) ?_ (by rw [List.size_toArray] <;> omega)
  rw [slicePick_cut, ← hlen]
  refine ⟨.ref s.heap.objs.size, _, I.laid (t' := s.toks) (o := .lst (cutV xs lo hi)) (fun b ob q => Heap.get?_push_of_some _ q) (Nat.le_refl _) ?_, rfl, q _ (I.hok.fresh (Nat.le_refl _))⟩
  exact ⟨Nat.le_trans (cutV_length xs lo hi) hz, _, 0, (r.drop (HT.sIx xs.length 0 lo)).take (HT.sIx xs.length xs.length hi - HT.sIx xs.length 0 lo), Heap.get?_push_size _ rfl⟩

/-! ### in, not in: flat items -/
def flatV : V → Bool
  | .non => true
  | .bl _ => true
  | .int _ => true
  | .str _ => true
  | _ => false
/-- == of flat values -/
def eqV : V → V → Bool
  | .non, .non => true
  | .bl a, .bl b => a == b
  | .bl a, .int b => (if a then 1 else 0) == b
  | .int a, .bl b => a == (if b then 1 else 0)
  | .int a, .int b => a == b
  | .str a, .str b => a == b
  | _, _ => false
theorem eqAt_V {A : Around} {s : Shared} {y x : V} {u v : Value} (ry : RelV y u) (rx : RelV x v) (fy : flatV y = true) (fx : flatV x = true) : SeqAt.EqAt A s u v (eqV y x) := by
  cases y with
  | non =>
    cases ry
    cases x with
    | non => cases rx; exact SeqAt.EqAt.same _
    | bl b => cases rx; exact SeqAt.EqAt.none_bool b
    | int b => obtain ⟨t, rfl⟩ := rx; exact SeqAt.EqAt.none_int b t
    | str b => obtain ⟨t, rfl⟩ := rx; exact SeqAt.EqAt.none_str b t
    | _ => exact absurd (show false = true from fx) Bool.false_ne_true
  | bl a =>
    cases ry
    cases x with
    | non => cases rx; exact SeqAt.EqAt.bool_none a
    | bl b => cases rx; exact SeqAt.EqAt.bool_bool a b
    | int b => obtain ⟨t, rfl⟩ := rx; exact SeqAt.EqAt.bool_int a b t
    | str b => obtain ⟨t, rfl⟩ := rx; exact SeqAt.EqAt.bool_str a b t
    | _ => exact absurd (show false = true from fx) Bool.false_ne_true
  | int a =>
    obtain ⟨t', rfl⟩ := ry
    cases x with
    | non => cases rx; exact SeqAt.EqAt.int_none a t'
    | bl b => cases rx; exact SeqAt.EqAt.int_bool a t' b
    | int b => obtain ⟨t, rfl⟩ := rx; exact SeqAt.EqAt.int_int a t' b t
    | str b => obtain ⟨t, rfl⟩ := rx; exact SeqAt.EqAt.int_str a t' b t
    | _ => exact absurd (show false = true from fx) Bool.false_ne_true
  | str a =>
    obtain ⟨t', rfl⟩ := ry
    cases x with
    | non => cases rx; exact SeqAt.EqAt.str_none a t'
    | bl b => cases rx; exact SeqAt.EqAt.str_bool a t' b
    | int b => obtain ⟨t, rfl⟩ := rx; exact SeqAt.EqAt.str_int a t' b t
    | str b => obtain ⟨t, rfl⟩ := rx; exact SeqAt.EqAt.str_str a t' b t
    | _ => exact absurd (show false = true from fx) Bool.false_ne_true
  | _ => exact absurd (show false = true from fy) Bool.false_ne_true
/-- the items' answers, read off the values (a value's own answer does not lean on its token) -/
def eqU (x : V) (u : Value) : Bool := match u with
  | .none => eqV .non x
  | .bool b => eqV (.bl b) x
  | .int i _ => eqV (.int i) x
  | .str z _ => eqV (.str z) x
  | _ => false
theorem eqU_of {x y : V} {u : Value} (r : RelV y u) (f : flatV y = true) : eqU x u = eqV y x := by
  cases y with
  | non => cases r; rfl
  | bl b => cases r; rfl
  | int i => obtain ⟨t, rfl⟩ := r; rfl
  | str z => obtain ⟨t, rfl⟩ := r; rfl
  | _ => exact absurd (show false = true from f) Bool.false_ne_true
theorem any_eqU {x : V} : ∀ {xs : List V} {us : List Value}, Vals xs us → xs.all flatV = true → us.any (eqU x) = xs.any fun y => eqV y x
  | _, _, .nil, _ => rfl
  | y :: xs, u :: us, .cons r t, f => by
    rw [List.all_cons, Bool.and_eq_true] at f
    rw [List.any_cons, List.any_cons, eqU_of r f.1, any_eqU t f.2]
theorem mem_eqAt {A : Around} {s : Shared} {x : V} {v : Value} (rx : RelV x v) (fx : flatV x = true) : ∀ {xs : List V} {us : List Value}, Vals xs us → xs.all flatV = true → ∀ u ∈ us, SeqAt.EqAt A s u v (eqU x u)
  | _, _, .nil, _ => fun u hu => by cases hu
  | y :: xs, u :: us, .cons r t, f => fun u' hu => by
    rw [List.all_cons, Bool.and_eq_true] at f
    rcases List.mem_cons.mp hu with rfl | hu
    · rw [eqU_of r f.1]; exact eqAt_V r rx f.1 fx
    · exact mem_eqAt rx fx t f.2 u' hu
def inV (x : V) (xs : List V) : Bool := xs.any fun y => eqV y x
/-- x in a list or tuple of flat items -/
def rIn (K : PySem.W.Frag) (neg : Bool) : R2 := fun x y H Q => ∃ p xs, y = .ref p ∧ (SqL K H p xs ∨ SqT K H p xs) ∧ flatV x = true ∧ xs.all flatV = true ∧ Q (.bl (if neg then !inV x xs else inV x xs)) H
theorem op_notIn_seq : OpR X (compareOp .NotIn) (rIn X.K true) := by
  intro pins s σ H x y v u Q I rx ry h
  obtain ⟨p, xs, rfl, hq, fx, fs, q⟩ := h
  cases ry
  rcases hq with hq | hq
  · obtain ⟨its, r, pl, hz⟩ := I.list hq
    refine SeqAt.notIn_listAt (eqU x) pl.isList (fun w hw => mem_eqAt rx fx r fs w (by simpa using hw)) ⟨.bl _, H, I, rfl, ?_⟩
    rw [show its.toArray.any (eqU x) = its.any (eqU x) by simp, any_eqU r fs]
    exact q
  · obtain ⟨its, r, pl, hz⟩ := I.tuple hq
    refine SeqAt.notIn_tupleAt (eqU x) pl (fun w hw => mem_eqAt rx fx r fs w (by simpa using hw)) ⟨.bl _, H, I, rfl, ?_⟩
    rw [show its.toArray.any (eqU x) = its.any (eqU x) by simp, any_eqU r fs]
    exact q

/-! ### len, list(x), tuple(x) of any list or tuple that is read -/
theorem call_len_seq : CallR X (.builtin "len") (fun xs H Q => ∃ p ys, xs = [.ref p] ∧ (SqL X.K H p ys ∨ SqT X.K H p ys) ∧ Q (.int ys.length) H) := by
  intro pins s σ H xs us Q I r h
  obtain ⟨p, ys, rfl, hq, q⟩ := h
  obtain ⟨u, rfl, rx⟩ := vals1 r
  cases rx
  have hn := line63
  rcases hq with hq | hq
  · obtain ⟨its, r', pl, hz⟩ := I.list hq
    have hlen := r'.length
    exact Calls.call_len_list pl.isList (by simp only [List.size_toArray] <;> omega) ⟨.int ys.length, H, I.tok _, ⟨s.toks + 1, by rw [List.size_toArray, hlen]⟩, q⟩
  · obtain ⟨its, r', pl, hz⟩ := I.tuple hq
    have hlen := r'.length
    exact len_tuple pl (by simp only [List.size_toArray] <;> omega) ⟨.int ys.length, H, I.tok _, ⟨s.toks + 1, by rw [List.size_toArray, hlen]⟩, q⟩
theorem call_list_of : CallR X (.type "list") (fun xs H Q => ∃ p ys, xs = [.ref p] ∧ (SqL X.K H p ys ∨ SqT X.K H p ys) ∧ ∀ l, H l = none → Q (.ref l) (upd H l (.lst ys))) := by
  intro pins s σ H xs us Q I r h
  obtain ⟨p, ys, rfl, hq, q⟩ := h
  obtain ⟨u, rfl, rx⟩ := vals1 r
  cases rx
  have fin : ∀ (its : List Value), Vals ys its → ys.length ≤ sizeLine → ∀ (h' : Heap) (c' : Nat), (∀ b o', s.heap.get? b = some o' → h'.get? b = some o') →
      h'.get? s.heap.objs.size = some { cls := .type "list", dict := none, data := .seq its.toArray c', slots := #[] } → EP X pins σ Q (.ref s.heap.objs.size) { s with heap := h' } := fun its r' hz h' c' kp e =>
    ⟨.ref s.heap.objs.size, _, I.laid (t' := s.toks) kp (Nat.le_refl _) (show ObjOk X.prog X.w _ h' _ (.lst ys) from ⟨hz, its, c', r', e⟩), rfl, q _ (I.hok.fresh (Nat.le_refl _))⟩
  rcases hq with hq | hq
  · obtain ⟨its, r', pl, hz⟩ := I.list hq
    have hlen := r'.length
    obtain ⟨o, ho, hc, n, hd⟩ := pl.isList
    exact call_list_seq p (.inl rfl) ho hc hd (fun h' c' kp e => fin its r' hz h' c' kp e) (by simp only [List.size_toArray] <;> omega)
  · obtain ⟨its, r', pl, hz⟩ := I.tuple hq
    have hlen := r'.length
    obtain ⟨o, ho, hc, n, hd⟩ := pl
    exact call_list_seq p (.inr rfl) ho hc hd (fun h' c' kp e => fin its r' hz h' c' kp e) (by simp only [List.size_toArray] <;> omega)

/-! ### the call of a builtin's method: o.m(..) -/
/-- the value is of that builtin type -/
def tyV (K : PySem.W.Frag) (T : String) (x : V) (H : Hp) : Prop := match x with
  | .str _ => T = "str"
  | .int _ => T = "int"
  | .ref p => (T = "list" ∧ ∃ xs, SqL K H p xs) ∨ (T = "tuple" ∧ ∃ o, K.lookup p = some o ∧ o.cls = .type "tuple" ∧ o.dict = none) ∨
      (T = "dict" ∧ ((∃ kvs, H p = some (.dK kvs)) ∨ ∃ kvs, H p = some (.dT kvs))) ∨ (T = "set" ∧ ∃ S n, H p = some (.set S n))
  | _ => False
theorem tyV_is {pins : List (Addr × Obj)} {σ : St} {H : Hp} {s : Shared} {T : String} {x : V} {v : Value} (I : Inv X pins σ H s) (r : RelV x v) (ty : tyV X.K T x H) :
    s.TypeIs v T ∧ ∀ a, v = .ref a → ∃ ob, s.heap.get? a = some ob ∧ ob.dict = none := by
  cases x with
  | str z =>
    obtain ⟨t, rfl⟩ := r
    cases (show T = "str" from ty)
    exact ⟨typeIs_str s z t, fun _ e => nomatch e⟩
  | int i =>
    obtain ⟨t, rfl⟩ := r
    cases (show T = "int" from ty)
    exact ⟨typeIs_int s i t, fun _ e => nomatch e⟩
  | ref p =>
    cases r
    rcases ty with ⟨rfl, xs, hq⟩ | ⟨rfl, o, hk, hc, hd⟩ | ⟨rfl, hk⟩ | ⟨rfl, S, n, hk⟩
    · obtain ⟨its, _, pl, _⟩ := I.list hq
      refine ⟨pl.isList.typeIs, fun a e => ?_⟩
      cases e
      obtain ⟨o, n, e, c, hd, _⟩ := pl
      exact ⟨o, e, hd⟩
    · refine ⟨⟨o, I.kIn p o hk, hc⟩, fun a e => ?_⟩
      cases e
      exact ⟨o, I.kIn _ o hk, hd⟩
    · have z : ∃ o, s.heap.get? p = some o ∧ o.ExactDict := by
        rcases hk with ⟨kvs, hk⟩ | ⟨kvs, hk⟩
        · obtain ⟨_, _, _, _, o, _, _, e, ex, _⟩ := I.hok p _ hk
          exact ⟨o, e, ex⟩
        · obtain ⟨_, _, _, _, o, _, _, e, ex, _⟩ := I.hok p _ hk
          exact ⟨o, e, ex⟩
      obtain ⟨o, e, ex⟩ := z
      refine ⟨⟨o, e, ex.1⟩, fun a e2 => ?_⟩
      cases e2
      exact ⟨o, e, ex.2.1⟩
    · obtain ⟨o, _, _, _, e, ex, _⟩ := I.hok p _ hk
      refine ⟨⟨o, e, ex.1⟩, fun a e2 => ?_⟩
      cases e2
      exact ⟨o, e, ex.2.1⟩
  | _ => exact False.elim ty
def tBM0 (K : PySem.W.Frag) (T : String) (r : V → List V → Hp → VK → Prop) (to : TE) : TE := fun σ H Q => to σ H fun x H1 => tyV K T x H1 ∧ r x [] H1 Q
def tBM (K : PySem.W.Frag) (T : String) (r : V → List V → Hp → VK → Prop) (to : TE) (t : TA) : TE := fun σ H Q => to σ H fun x H1 => tyV K T x H1 ∧ t σ H1 fun xs H2 => r x xs H2 Q
variable {o e : Expr} {es : List Expr} {to : TE} {t : TA} {name : Str} {apos cpos : Pos} {T id : String} {r : V → List V → Hp → VK → Prop}
theorem pe_bm0 (pa : PlainAttrs T) (slot : Slot T name id) (hty : typeOf (.builtin id) = pure (.type "method_descriptor")) (hm : MtR X id r) (ho : PE X o to)
    (hbase : attributeBase o name X.env (eval o X.env) = eval o X.env := by rfl) (hline : (apos.endLine == cpos.line) = true := by rfl) : PE X (.Call (.Attribute o name apos) [] [] cpos) (tBM0 X.K T r to) := by
  intro pins s σ H Q I h
  refine wpAny_Call_method0_late hbase hline (thn (ho pins s σ H _ I h) fun v s1 ⟨x, H1, I1, r1, ty, q1⟩ => ?_)
  obtain ⟨h1, h2⟩ := tyV_is I1 r1 ty
  exact ⟨T, id, pa, slot, hty, h1, h2, Calls.callWith_builtin rfl (PySem.evalArgs_none (hm pins s1 σ H1 x [] v [] Q I1 r1 .nil q1))⟩
theorem pe_bm (pa : PlainAttrs T) (slot : Slot T name id) (hty : typeOf (.builtin id) = pure (.type "method_descriptor")) (hm : MtR X id r) (ho : PE X o to) (ha : PA X (e :: es) t)
    (hbase : attributeBase o name X.env (eval o X.env) = eval o X.env := by rfl)
    (hfew : ((backTo cpos (starEach (e :: es) X.env)).all (fun x => !x.1) && (backToKw cpos (keywordEach [] X.env)).all (fun x => x.1.isSome)
      && decide ((e :: es).length + ([] : List Keyword).length + (if ([] : List Keyword).isEmpty then 0 else 1) < 30)) = true := by rfl)
    (hline : (apos.endLine == cpos.line) = true := by rfl) (hs : starEach (e :: es) X.env = (false, eval e X.env) :: starEach es X.env := by rfl) (hplain : (backTo cpos (starEach es X.env)).any (·.1) = false := by rfl) :
    PE X (.Call (.Attribute o name apos) (e :: es) [] cpos) (tBM X.K T r to t) := by
  intro pins s σ H Q I h
  refine wpAny_Call_method_late hbase hfew hline rfl (thn (ho pins s σ H _ I h) fun v s1 ⟨x, H1, I1, r1, ty, q1⟩ => ?_)
  obtain ⟨h1, h2⟩ := tyV_is I1 r1 ty
  refine ⟨T, id, pa, slot, hty, h1, h2, ?_⟩
  have hA := ha cpos pins s1 σ H1 _ I1 q1
  rw [hs] at hA ⊢
  refine Calls.callWith_builtin (by show (false || (backTo cpos (starEach es X.env)).any (·.1)) = false; rw [hplain] <;> rfl) (Calls.evalArgs_plain ?_)
  exact thn hA fun us s2 ⟨vs, H2, I2, r2, q2⟩ => hm pins s2 σ H2 x vs v us Q I2 r1 r2 q2
/- xs.append(e), list.index on a module's tuple .. are MtR facts of 06m -/
end
end L2

namespace L2
open PySem PySem.Spec PyProof.Rows

def MtM (X : Cx) (id : String) (r : V → List V → Hp → VK → Prop) : Prop :=
  ∀ (pins : List (Addr × Obj)) (s : Shared) (σ : St) (H : Hp) (x : V) (xs : List V) (v : Value) (us : List Value) (Q : VK), Inv X pins σ H s → RelV x v → Vals xs us → r x xs H Q →
    wpAny (model X.prog X.w) X.A (call (.builtin id) (v :: us)) (EP X pins σ Q) X.xe s

/-! ### lists of values -/
theorem Vals.one : ∀ {x : V} {us : List Value}, Vals [x] us → ∃ u, us = [u] ∧ RelV x u
  | _, _, .cons r .nil => ⟨_, rfl, r⟩
theorem Vals.zero : ∀ {us : List Value}, Vals [] us → us = []
  | _, .nil => rfl
theorem Vals.reverse {xs : List V} {us : List Value} (h : Vals xs us) : Vals xs.reverse us.reverse := by
  induction h with
  | nil => exact .nil
  | cons r t ih => rw [List.reverse_cons, List.reverse_cons]; exact Vals.append ih (.cons r .nil)

section
variable {X : Cx} {pins : List (Addr × Obj)} {σ : St} {H : Hp} {s : Shared} {l b : Addr} {xs ys zs : List V}

/-! ### the two steps: a tracked list is rewritten, a new list is laid -/
theorem Inv.lset {its its' : List Value} {n : Nat} {f : Array Value → Array Value} {t' : Nat} (I : Inv X pins σ H s) (hH : H l = some (.lst xs))
    (e : s.heap.get? l = some { cls := .type "list", data := .seq its.toArray n }) (hf : f its.toArray = its'.toArray) (hv : Vals ys its') (hz : ys.length ≤ sizeLine) :
    Inv X pins σ (upd H l (.lst ys)) { s with heap := s.heap.update l (Obj.mapSeq f), toks := t' } := by
  have q := PySem.IsL.update e f
  rw [hf] at q
  refine I.write (x := l) (e := l) (by rw [hH]; exact trivial) (.inl rfl) (fun b' u hb hu => (Heap.get?_update_other s.heap (Obj.mapSeq f) (Ne.symm hb)).trans hu) ⟨_, q⟩ ?_
  exact ⟨hz, its', _, hv, q⟩
theorem Inv.lstM (I : Inv X pins σ H s) (hH : H l = some (.lst xs)) : xs.length ≤ sizeLine ∧ ∃ (its : List Value) (n : Nat), Vals xs its ∧ xs.length = its.length ∧ s.heap.get? l = some { cls := .type "list", data := .seq its.toArray n } := by
  obtain ⟨z, its, n, r, e⟩ := I.hok l _ hH
  exact ⟨z, its, n, r, r.length, e⟩

end

section
variable {X : Cx}

/-! ### methods -/
def rAppend : V → List V → Hp → VK → Prop := fun x vs H Q => ∃ l xs y, x = .ref l ∧ vs = [y] ∧ H l = some (.lst xs) ∧ xs.length < sizeLine ∧ Q .non (upd H l (.lst (xs ++ [y])))
theorem mt_append : MtM X "list.append" rAppend := by
  intro pins s σ H x vs v us Q I rx rv h
  obtain ⟨l, xs, y, rfl, rfl, hH, hz, q⟩ := h
  cases rx
  obtain ⟨u, rfl, ru⟩ := rv.one
  obtain ⟨z, its, n, r, hl, e⟩ := I.lstM hH
  refine call_meets F.slot_list_append ⟨_, e, rfl⟩ F.entry_list_append (F.args_list_append_2 _ _) (PySem.list_append l its.toArray n u (by rw [List.size_toArray]; omega)) ⟨e, ?_⟩
  refine ⟨.non, _, I.lset (its' := its ++ [u]) hH e (by simp) (r.append (.cons ru .nil)) ?_, rfl, q⟩
  rw [List.length_append, List.length_singleton]
  omega





def rClear : V → List V → Hp → VK → Prop := fun x vs H Q => ∃ l xs, x = .ref l ∧ vs = [] ∧ H l = some (.lst xs) ∧ Q .non (upd H l (.lst []))
theorem mt_clear : MtM X "list.clear" rClear := by
  intro pins s σ H x vs v us Q I rx rv h
  obtain ⟨l, xs, rfl, rfl, hH, q⟩ := h
  cases rx
  have hus := rv.zero
  subst hus
  obtain ⟨z, its, n, r, hl, e⟩ := I.lstM hH
  refine call_meets F.slot_list_clear ⟨_, e, rfl⟩ F.entry_list_clear (F.args_list_clear_1 _) (AutoSeq1.list_clear_list_0 l its.toArray n (by rw [List.size_toArray]; omega)) ⟨e, ?_⟩
  exact ⟨.non, _, I.lset (its' := []) (ys := []) hH e rfl .nil (Nat.zero_le _), rfl, q⟩

/-! ### list + list, list += list, list * int -/

/-! ### del xs[i] -/
end

/-! ### xs[a:b] = ys -/
section
variable {prog : Program} {w : World} {A : Around} {E : Value → Shared → Prop} {s : Shared}
set_option maxRecDepth 100000 in
end

end L2

namespace Att
open PySem PySem.W PySem.Calls PyProof.Rows

/-! ### the script -/
theorem ints_of_wellAll {P : Params} {h : Heap} : ∀ (ns : List Int) (vs : List Value), WellAll P h vs (ns.map WData.int) → IntsAre vs ns := by
  intro ns
  induction ns with
  | nil =>
    intro vs w
    rw [List.map_nil] at w
    cases w
    exact .nil
  | cons n ns ih =>
    intro vs w
    rw [List.map_cons] at w
    cases w with
    | cons a b =>
      cases a
      exact .cons _ _ (ih _ b)

theorem script_of {l : OpenLaw} {n : Nat} (hn : l.most = some n) {P : Params} {h : Heap} {args : List WData} {vals : List Value}
    (hpre : l.row.toRowW.claim.pre args = true) (hwl : WellAll P h vals args) :
    ∃ a vs ns, vals = [Value.ref a] ∧ args = [WData.list (ns.map WData.int)] ∧ h.get? a = some { cls := .type "list", data := .seq vs.toArray } ∧ IntsAre vs ns ∧ ns.length ≤ n := by
  have hsh : WShape.hasAll [] args [.list .int] = true := (pre_splitW hpre).1
  have hc : l.pre.holds [] { args := args } = true := (pre_splitW hpre).2
  obtain ⟨d, r, rfl, h1, h2⟩ := hasAllW_cons hsh
  obtain rfl := hasAllW_nil h2
  obtain ⟨xs, rfl, h3⟩ := hasW_list h1
  obtain ⟨ns, rfl⟩ := items_int h3
  have hlen : ns.length ≤ n := by
    unfold OpenLaw.pre at hc
    have h4 : (WTm.not (.lt (.lit (.int (n : Int))) (.len (.arg 0)))).holds [] { args := [.list (ns.map .int)] } = true := by
      have h4 := (holds_andW hc).1
      rw [hn] at h4
      exact h4
    have h5 := condW_of h4 (w_not (w_lt w_lit (w_len_list (w_arg rfl))))
    rw [List.length_map] at h5
    refine Nat.le_of_not_lt fun q => ?_
    have q' : (n : Int) < ((ns.length : Nat) : Int) := by omega
    first
      | (rw [decide_eq_true q'] at h5; exact absurd h5 (by decide))
      | (simp at h5; omega)
  cases hwl with
  | cons w1 w2 =>
    cases w2
    cases w1 with
    | list ho hall => exact ⟨_, _, ns, rfl, rfl, ho, ints_of_wellAll ns _ hall, hlen⟩

theorem post_true (l : OpenLaw) (args : List WData) : l.row.toRowW.claim.post args (.bool true) args = true :=
  postW_of (r := l.row.toRowW) (X := (true == true))
    (show WShape.has [] (.bool true) .bool = true by first | rfl | decide | simp [WShape.has, WShape.arms, WShape.armsAll])
    (show (WTm.eq .res (.lit (.bool true))).value [] { args := args, res := some (.bool true), after := args } = some (.bool (true == true)) from w_eq_bool (w_res rfl) w_lit) rfl

/-! ### the attachment: holds_open's last premise (the goal 'hc' behind k_head) from a wpAny of the law's body -/

/-- the same from a codeAny of the CALL (for a layer whose function contracts speak of calls) -/
theorem attach_call {l : OpenLaw} {n : Nat} {q : Program} {loose : List Str} {XP : (Str → Option Value) → Heap → Prop} {YP : World → Heap → Prop} {d : DefRec}
    (hn : l.most = some n) (hdf : d.params.defaults = [])
    (call : ∀ (w : World) (s₀ s₁ : Shared) (mg mb : Str → Option Value) (fa : Addr) (o : Obj) (pm cd doc : Value) (a : Addr) (vs : List Value) (ns : List Int),
      Ground q loose [] XP w s₀ mg mb s₁.heap → YP w s₁.heap →
      s₁.heap.get? fa = some o → o.data = .func (docDef d.name d.params d.body d.scope pm cd doc) → s₁.heap.CodeRec cd d.name → mg d.name = some (.ref fa) →
      s₁.heap.get? a = some { cls := .type "list", data := .seq vs.toArray } → IntsAre vs ns → ns.length ≤ n → s₁.gens = #[] →
      codeAny (model l.prog w) callerA (.call (.ref fa) ⟨[.ref a], []⟩) (fun r s' => r = .ok (.ret (.bool true)) ∧ OldK s₁.heap s'.heap ∧ s'.os = s₁.os ∧ AllBare s'.gens) s₁) :
    WalkO q loose XP YP l.row.toRowW d [] (fun f vs => PySem.call f vs) := by
  intro w s₀ s₁ mg mb G Y fa o pm cd doc dV kV ho hd hcd hD hmg hg args vals as hpre hlay hrd hwl hlo
  obtain rfl : dV = .none := Dflts.none hD hdf
  obtain rfl : kV = .none := Dflts.noKw hD
  obtain ⟨a, vs, ns, rfl, rfl, hobj, hints, hlen⟩ := script_of hn hpre hwl
  refine enter_call (codeAny_mono (call w s₀ s₁ mg mb fa o pm cd doc a vs ns G Y ho (fd_plain hd) hcd hmg hobj hints hlen hg) fun r s' hq => ?_)
  obtain ⟨rfl, h2, h3, h4⟩ := hq
  exact ⟨.inl ⟨.bool true, .bool true, [], rfl, fun _ => rfl, .bool true, post_true l _, fun _ => ⟨List.Pairwise.nil, fun _ hm => (nomatch hm)⟩⟩, h2, h3, h4⟩


/-! ### rules over ANY heap (no ledger) from facts about the written part K: the library's own take a ledger (News) for what they write -/
section
variable {prog : Program} {w : World} {A : Around} {E : Value → Shared → Prop} {s : Shared} {K : Frag}





/-! the whole heap as the ledger: makes every rule that writes through a ledger a rule over any heap -/

end
end Att

namespace L2
open PySem PySem.Spec PyProof.Rows

theorem vals_ints : ∀ {vs : List Value} {ns : List Int}, IntsAre vs ns → Vals (ns.map V.int) vs
  | _, _, .nil => .nil
  | _, _, .cons n t h => .cons ⟨t, rfl⟩ (vals_ints h)


end L2

namespace L2
open PySem PySem.Spec PyProof.Rows


end L2



/-! SHORT WORDS over the layer: a def of the text, its body, what a loop and a test want. -/
namespace L2
open PySem PySem.Spec PyProof.Rows

/-! ### the text by places -/
/-- the j-th statement of a class's body -/
def inClass (s : Stmt) (j : Nat) : Stmt := match s with
  | .ClassDef _ _ _ body _ _ _ _ _ _ _ => body.getD j (.Pass ⟨0, 0, 0, 0⟩)
  | _ => .Pass ⟨0, 0, 0, 0⟩
def defArgs (s : Stmt) : Arguments := match s with
  | .FunctionDef _ a _ _ _ _ _ _ _ _ => a
  | _ => { posonlyargs := [], args := [], vararg := none, kwonlyargs := [], kw_defaults := [], kwarg := none, defaults := [] }
def defBody (s : Stmt) : List Stmt := match s with
  | .FunctionDef _ _ b _ _ _ _ _ _ _ => b
  | _ => []
def defScope (s : Stmt) : Scope := match s with
  | .FunctionDef _ _ _ _ _ _ sc _ _ _ => sc
  | _ => { kind := .function, names := [], isGenerator := false, isCoroutine := false }

/-! ### no exception leaves a def -/
abbrev CX0 : CXT := fun _ _ _ _ _ _ => False
abbrev E0 : XK := fun _ _ _ => False
theorem pass0 {X : Cx} : Passes CX0 X E0 := fun _ _ _ _ _ _ _ h => h.elim

/-! ### a def (or method) of the text as it stands behind the top -/
structure Fun (K : PySem.W.Frag) (x qual : Str) (st : Stmt) (f : Addr) (fd : FuncData) : Prop where
  ex : ∃ (oc : Value) (od : Option Addr) (kV doc pm : Value) (an : Option Addr) (cdv ct : Value) (osl : Array (Option Value)),
    fd = PySem.W.fnOf x qual (defArgs st) (defBody st) (defScope st) .none kV doc pm an cdv ct ∧ K.lookup f = some ⟨oc, od, .func fd, osl⟩ ∧ PySem.W.codeIn K cdv qual = true
  kp : PySem.W.keepIn K (.ref f) = true
section
variable {P : Program} {w : World} {K : PySem.W.Frag} {mg : Str → Option Value} {base : Heap}
/-- THE RULE for a def: its body as a term of rules, and the reading of that term -/
theorem Fun.ok {x qual : Str} {st : Stmt} {f : Addr} {fd : FuncData} {N ps : List Str} {k : Nat} {sp : Sp} (F : Fun K x qual st f fd) (S : FnScope N ps (defScope st)) (len : ∀ vs H Q E, sp vs H Q E → vs.length = ps.length)
    (hbody : ∀ (cdv : Value) (A : Around) (outer : List Env) (s : Shared) (H : Hp) (vs : List V) (Q : VK) (E : XK), Room k (A.deeper (envOfC qual (defScope st) s.heap.objs.size f cdv)) → sp vs H Q E →
      ∃ t, PSs (cxOf CX0 P w K mg base N qual (defScope st) f cdv A outer s H E).nox (defBody st) t ∧ t { nx := fun _ H' => Q .non H', rt := Q } (start N vs) H) : FnOk P w K mg base CX0 (k + 1) f fd ps sp := by
  obtain ⟨oc, od, kV, doc, pm, an, cdv, ct, osl, rfl, lk, hcd⟩ := F.ex
  refine fn_of lk hcd S len fun A outer s H vs Q E hr hsp => ?_
  obtain ⟨t, h, q⟩ := hbody cdv A outer s H vs Q E hr hsp
  exact ⟨t, h.nox, q⟩
/-- how its arguments bind (no defaults): h is «fun _ _ _ _ _ _ us hl => match us, hl with | [_, _], _ => rfl», one _ a parameter -/
theorem Fun.binds {x qual : Str} {st : Stmt} {f : Addr} {fd : FuncData} {ps : List Str} (F : Fun K x qual st f fd)
    (h : ∀ (kV doc pm : Value) (an : Option Addr) (cdv ct : Value) (us : List Value), us.length = ps.length → bindArgs (PySem.W.fnOf x qual (defArgs st) (defBody st) (defScope st) .none kV doc pm an cdv ct) ⟨us, []⟩ = pure (ps.zip us)) : Binds K fd ps [] := by
  obtain ⟨oc, od, kV, doc, pm, an, cdv, ct, osl, rfl, lk, hcd⟩ := F.ex
  exact .all (h kV doc pm an cdv ct)
theorem fun_mk {x qual : Str} {st : Stmt} {f : Addr} {oc : Value} {od an : Option Addr} {osl : Array (Option Value)} {kV doc pm cdv ct : Value} (l : K.lookup f = some ⟨oc, od, .func (PySem.W.fnOf x qual (defArgs st) (defBody st) (defScope st) .none kV doc pm an cdv ct), osl⟩)
    (c : PySem.W.codeIn K cdv qual = true) (k : PySem.W.keepIn K (.ref f) = true) : Fun K x qual st f (PySem.W.fnOf x qual (defArgs st) (defBody st) (defScope st) .none kV doc pm an cdv ct) := ⟨⟨oc, od, kV, doc, pm, an, cdv, ct, osl, rfl, l, c⟩, k⟩
end
theorem hu_of {A : Around} {k : Nat} (hr : Room k A) : A.units + 1 < cLine := Nat.lt_of_le_of_lt (Nat.add_le_add_left (by decide : 1 ≤ 64) _) hr.units
theorem small1000 {n : Nat} (h : n ≤ 1000) : n < sizeLine := Nat.lt_of_le_of_lt h (by decide)

/-! ### expressions in short: the name that stands in the i-th slot -/
section
variable {X : Cx}
theorem pv (i : Nat) {x : Str} {pos : Pos} (hN : X.N[i]? = some x := by rfl) (hv : Vis X.env.scope x := by first | exact Or.inl rfl | exact Or.inr (Or.inl rfl) | exact Or.inr (Or.inr rfl)) (hd : (x == ("__debug__" : Str)) = false := by decide)
    (hcd : (x == ("__classdict__" : Str)) = false := by decide) : PE X (.Name x pos) (tVar i) := pe_var hN hv hd hcd
end

/-! ### tests -/

/-! ### heaps -/
/-- all that was tracked is as it was -/
def Same (H H' : Hp) : Prop := ∀ b o, H b = some o → H' b = some o
theorem Same.refl (H : Hp) : Same H H := fun _ _ h => h
theorem Same.trans {H H1 H2 : Hp} (a : Same H H1) (b : Same H1 H2) : Same H H2 := fun c o h => b c o (a c o h)
theorem Same.free {H H' : Hp} (e : Same H H') {l : Addr} (h : H' l = Option.none) : H l = Option.none := by
  cases q : H l with
  | none => rfl
  | some o =>
    rw [e l o q] at h
    cases h

end L2

set_option linter.all false
set_option maxRecDepth 100000
set_option maxHeartbeats 4000000
namespace L2
open PySem PySem.Spec PyProof.Rows
/-! wider rules of one's own over the layer -/
/-- so many bits at the most -/
def Bd (n : Nat) (i : Int) : Prop := i.natAbs < 2 ^ n
theorem Bd.mono {m n : Nat} {i : Int} (h : Bd m i) (e : m ≤ n) : Bd n i := Nat.lt_of_lt_of_le h (Nat.pow_le_pow_right (by decide) e)
theorem Bd.mul {m n : Nat} {i j : Int} (h : Bd m i) (g : Bd n j) : Bd (m + n) (i * j) := by
  unfold Bd at *
  rw [Int.natAbs_mul, Nat.pow_add]
  by_cases e : i.natAbs = 0
  · rw [e, Nat.zero_mul]; exact Nat.mul_pos (Nat.pow_pos (by decide)) (Nat.pow_pos (by decide))
  · exact Nat.mul_lt_mul_of_lt_of_le h (Nat.le_of_lt g) (Nat.pow_pos (by decide))
theorem Bd.add {m : Nat} {i j : Int} (h : Bd m i) (g : Bd m j) : Bd (m + 1) (i + j) := by
  unfold Bd at *
  have := Int.natAbs_add_le i j
  rw [Nat.pow_succ]; omega
theorem Bd.neg {m : Nat} {i : Int} (h : Bd m i) : Bd m (-i) := by
  unfold Bd at *; rw [Int.natAbs_neg]; exact h
theorem Bd.sub {m : Nat} {i j : Int} (h : Bd m i) (g : Bd m j) : Bd (m + 1) (i - j) := by
  rw [Int.sub_eq_add_neg]; exact h.add g.neg
theorem Bd.bits {m : Nat} {i : Int} (h : Bd m i) : Builtin.Int.intBits i ≤ m := by
  unfold Bd at h
  unfold Builtin.Int.intBits
  split
  · exact Nat.zero_le _
  · rename_i hz
    have hn : i.natAbs ≠ 0 := by
      intro e; apply hz; have : i = 0 := Int.natAbs_eq_zero.mp e
      subst this; rfl
    have := (Nat.log2_lt hn).mpr h
    omega
theorem Bd.log {m : Nat} {i : Int} (h : Bd m i) (hm : 0 < m) : i.natAbs.log2 < m := by
  unfold Bd at h
  by_cases e : i.natAbs = 0
  · rw [e]; simpa using hm
  · exact (Nat.log2_lt e).mpr h
theorem Bd.le {m : Nat} {i j : Int} (h : Bd m j) (e : i.natAbs ≤ j.natAbs) : Bd m i := Nat.lt_of_le_of_lt e h
theorem mulOk_of {m n : Nat} {i j : Int} (h : Bd m i) (g : Bd n j) (e : m + n ≤ 134217728) : IntMulOk i j := by
  unfold IntMulOk
  intro z
  rw [Bool.and_eq_true, Bool.and_eq_true] at z
  obtain ⟨_, z⟩ := z
  unfold Builtin.Int.intTooBig at z
  have hz := of_decide_eq_true z
  have h1 := h.bits
  have h2 := g.bits
  have h3 : (bitsLine : Int) = 134217728 := by decide +kernel
  rw [h3] at hz
  omega
/-- a division that goes by no other module -/
def CDivB (_ j : Int) : Prop := j ≠ 0 ∧ Bd 9000 j
section
variable {X : Cx}
theorem op_mulB : OpR X (binaryOp .Mult) (rI IntMulOk fun i j => .int (i * j)) := opI fun _ _ _ _ _ _ _ hc q => mul_int q hc
theorem op_fdivB : OpR X (binaryOp .FloorDiv) (rI CDivB fun i j => .int (i.fdiv j)) := opI fun _ _ _ _ _ _ _ hc q => floordiv_int hc.1 q (.inl (PyProof.noPylong_of_log2 (hc.2.log (by decide))))
/-- isinstance(x, T), T a type of the language -/
theorem call_isinst : CallR X (.builtin "isinstance") (fun xs H Q => ∃ x n t b, xs = [x, .ty n] ∧ TyOf X.K H x t ∧ PySem.W.kitOne X.K t (.type n) = some b ∧ Q (.bl b) H) := by
  intro pins s σ H xs us Q I r h
  obtain ⟨x, n, t, b, rfl, ty, e, q⟩ := h
  obtain ⟨u, v, rfl, ru, rv⟩ := vals2 r
  cases (show v = Value.type n from rv)
  exact isinst_ok I ru ty e fun tk => ⟨.bl b, H, I.tok _, rfl, q⟩
theorem kit_same {K : PySem.W.Frag} {n : String} : PySem.W.kitOne K (.type n) (.type n) = some true := by
  unfold PySem.W.kitOne; rw [if_pos (beq_self_eq_true _)]
end
/-! ### == of tuples and lists of data -/
def TupI (K : PySem.W.Frag) (H : Hp) (v : V) (ns : List Int) : Prop := ∃ a, v = .ref a ∧ SqT K H a (ns.map V.int)
section
open PySem.SeqAt PyProof.V
variable {X : Cx} {pins : List (Addr × Obj)} {σ : St} {H : Hp} {s : Shared}
theorem readsAll_ints {h : Heap} : ∀ {ns : List Int} {us : List Value}, Vals (ns.map V.int) us → ReadsAll h us (ns.map PyData.int) [] := by
  intro ns
  induction ns with
  | nil => intro us h; cases h; exact .nil
  | cons n ns ih =>
    intro us hv
    cases hv with
    | cons r t =>
      obtain ⟨k, rfl⟩ := (show ∃ t, _ = Value.int n t from r)
      have := ReadsAll.cons (Reads.int (h := h) n k) (ih t)
      simpa using this
theorem Inv.tupI {v : V} {u : Value} {ns : List Int} (I : Inv X pins σ H s) (r : RelV v u) (t : TupI X.K H v ns) : Reads s.heap u (.tuple (ns.map PyData.int)) [] := by
  obtain ⟨a, rfl, h⟩ := t
  cases r
  obtain ⟨its, rv, p, _⟩ := I.tuple h
  obtain ⟨o, ho, hc, n, hd⟩ := p
  exact Reads.tuple ho hc hd (by simpa using readsAll_ints rv)
theorem Inv.tupsI (I : Inv X pins σ H s) : ∀ {vs : List V} {us : List Value} {nss : List (List Int)}, Vals vs us → Paired (TupI X.K H) vs nss → ReadsAll s.heap us (nss.map fun ns => .tuple (ns.map PyData.int)) []
  | _, _, _, .nil, .nil => .nil
  | _, _, _, .cons r t, .cons p q => by
    have := ReadsAll.cons (I.tupI r p) (Inv.tupsI I t q)
    simpa using this
theorem Inv.listTI {a : Addr} {vs : List V} {nss : List (List Int)} (I : Inv X pins σ H s) (h : SqL X.K H a vs) (p : Paired (TupI X.K H) vs nss) : Reads s.heap (.ref a) (.list (nss.map fun ns => .tuple (ns.map PyData.int))) [a] := by
  obtain ⟨its, rv, pl, _⟩ := I.list h
  obtain ⟨o, ho, hc, n, hd⟩ := pl.isList
  exact Reads.list ho hc hd (by simpa using I.tupsI rv p)
theorem canLay_tis : ∀ nss : List (List Int), PyData.canLayAll0 (nss.map fun ns => .tuple (ns.map PyData.int)) = true
  | [] => by simp [PyData.canLayAll0]
  | ns :: r => by simp [PyData.canLayAll0, PyData.canLay0, PySem.W.canLayAll0_ints ns, canLay_tis r]
theorem depth_tis : ∀ nss : List (List Int), PyData.depthAll (nss.map fun ns => .tuple (ns.map PyData.int)) ≤ 2
  | [] => by simp [PyData.depthAll]
  | ns :: r => by
    have h1 := depth_tis r
    have h2 := PySem.W.depthAll_ints ns
    simp only [List.map_cons, PyData.depthAll, PyData.depth]
    omega
theorem shaped_tis (nss : List (List Int)) : shaped (.list (nss.map fun ns => .tuple (ns.map PyData.int))) = true := by
  have h1 := depth_tis nss
  have h2 : PyData.depth (.list (nss.map fun ns => .tuple (ns.map PyData.int))) ≤ 64 := by simp only [PyData.depth]; omega
  show (PyData.canLay0 (.list (nss.map fun ns => .tuple (ns.map PyData.int))) && decide (PyData.depth (.list (nss.map fun ns => .tuple (ns.map PyData.int))) ≤ 64)) = true
  rw [Bool.and_eq_true]
  exact ⟨by simp only [PyData.canLay0]; exact canLay_tis nss, decide_eq_true h2⟩
theorem shaped_ti (ns : List Int) : shaped (.tuple (ns.map PyData.int)) = true := by
  have h1 := PySem.W.depthAll_ints ns
  have h2 : PyData.depth (.tuple (ns.map PyData.int)) ≤ 64 := by simp only [PyData.depth]; omega
  show (PyData.canLay0 (.tuple (ns.map PyData.int)) && decide (PyData.depth (.tuple (ns.map PyData.int)) ≤ 64)) = true
  rw [Bool.and_eq_true]
  exact ⟨by simp only [PyData.canLay0]; exact PySem.W.canLayAll0_ints ns, decide_eq_true h2⟩
theorem noMix_tis (ns ms : List (List Int)) : noMixAll (ns.map fun n => .tuple (n.map PyData.int)) (ms.map fun n => .tuple (n.map PyData.int)) = true := by
  induction ns generalizing ms with
  | nil => cases ms <;> simp [noMixAll]
  | cons a r ih => cases ms <;> simp [noMixAll, noMix, PySem.W.noMix_ints, ih]
theorem same_tis (ns ms : List (List Int)) : PySem.Spec.sameAll (ns.map fun n => .tuple (n.map PyData.int)) (ms.map fun n => .tuple (n.map PyData.int)) = decide (ns = ms) := by
  induction ns generalizing ms with
  | nil => cases ms <;> simp [PySem.Spec.sameAll]
  | cons n r ih =>
    cases ms with
    | nil => simp [PySem.Spec.sameAll]
    | cons k q =>
      simp only [List.map_cons, PySem.Spec.sameAll, PySem.Spec.same, ih, PySem.W.same_ints]
      by_cases z : n = k <;> simp [z]
end
section
open PySem.SeqAt PyProof.V
variable {X : Cx}
/-- tuples of ints -/
def rEqTI (K : PySem.W.Frag) (neg : Bool) : R2 := fun x y H Q => ∃ ns ms, TupI K H x ns ∧ TupI K H y ms ∧ Q (.bl (if neg then !decide (ns = ms) else decide (ns = ms))) H
theorem op_eqTI (hu : X.A.units + 64 < cLine) : OpR X (compareOp .Eq) (rEqTI X.K false) := by
  intro pins s σ H x y v u Q I rx ry h
  obtain ⟨ns, ms, h1, h2, q⟩ := h
  refine eq_dataH_same (I.tupI rx h1) (I.tupI ry h2) (shaped_ti ns) (shaped_ti ms) hu (by simp only [noMix]; exact PySem.W.noMix_ints ns ms) (fin_bl I q ?_)
  simp only [PySem.Spec.same]; rw [PySem.W.same_ints]; rfl
/-- lists of tuples of ints -/
def rEqLTI (K : PySem.W.Frag) (neg : Bool) : R2 := fun x y H Q => ∃ a b vs ws ns ms, x = .ref a ∧ y = .ref b ∧ SqL K H a vs ∧ SqL K H b ws ∧ Paired (TupI K H) vs ns ∧ Paired (TupI K H) ws ms ∧ Q (.bl (if neg then !decide (ns = ms) else decide (ns = ms))) H
theorem op_eqLTI (hu : X.A.units + 64 < cLine) : OpR X (compareOp .Eq) (rEqLTI X.K false) := by
  intro pins s σ H x y v u Q I rx ry h
  obtain ⟨a, b, vs, ws, ns, ms, rfl, rfl, h1, h2, p1, p2, q⟩ := h
  cases rx; cases ry
  refine eq_dataH_same (I.listTI h1 p1) (I.listTI h2 p2) (shaped_tis ns) (shaped_tis ms) hu (by simp only [noMix]; exact noMix_tis ns ms) (fin_bl I q ?_)
  simp only [PySem.Spec.same]; rw [same_tis]; rfl
theorem op_neLTI (hu : X.A.units + 64 < cLine) : OpR X (compareOp .NotEq) (rEqLTI X.K true) := by
  intro pins s σ H x y v u Q I rx ry h
  obtain ⟨a, b, vs, ws, ns, ms, rfl, rfl, h1, h2, p1, p2, q⟩ := h
  cases rx; cases ry
  refine ne_dataH_same (I.listTI h1 p1) (I.listTI h2 p2) (shaped_tis ns) (shaped_tis ms) hu (by simp only [noMix]; exact noMix_tis ns ms) (fin_bl I q ?_)
  simp only [PySem.Spec.same]; rw [same_tis]; rfl
end
end L2

set_option linter.all false
set_option maxRecDepth 100000
set_option maxHeartbeats 4000000
namespace L2
open PySem PySem.Spec PyProof.Rows
/-! ### a comprehension -/
/-- the context of its block -/
def blk (X : Cx) (N' : List Str) (scope : Scope) (cl : List (Str × Addr)) (C : Addr) (fp : List Addr) (s0 : Shared) (H0 : Hp) : Cx :=
  { X with N := N', s₀ := s0, H₀ := H0, env := compEnvC scope cl C X.env, outer := X.stack, stack := X.stack, ex := fp, fn := fun _ => false, pn := [], xe := fun _ _ => False }
/-- what was known of the slots is known -/
def KeepS (a b : St) : Prop := b.length = a.length ∧ ∀ (i : Nat) v, a[i]? = some (some v) → b[i]? = some (some v)
theorem KeepS.cons {a b : St} (h : KeepS a b) (v : Option V) : KeepS (none :: a) (v :: b) := ⟨by simp [h.1], fun i w e => by
  cases i with
  | zero => cases e
  | succ i => simpa using h.2 i w (by simpa using e)⟩
theorem KeepS.refl (a : St) : KeepS a a := ⟨rfl, fun _ _ h => h⟩
def tComp (wi : TI) (fr : St → St) (g : TG) (te : TE) : TE := fun σ H Q => wi σ H fun J H1 => ∀ D, H1 D = none → ∃ W : Nat → Nat → List V → Hp → Prop, (∃ m, W 0 m [] (upd H1 D (.lst []))) ∧
  ∀ i m ys H2, W i m ys H2 → (J.stop i H2 ∧ Q (.ref D) H2) ∨ (J.go i H2 ∧ ys.length < sizeLine ∧ ∀ x H3, J.yld i H2 x H3 → g x (fr σ) H3 fun σ2 H3' => KeepS (fr σ) σ2 ∧ te σ2 H3' fun y H4 =>
    H4 D = some (.lst ys) ∧ ∃ m', m' < m ∧ W (i + 1) m' (ys ++ [y]) (upd H4 D (.lst (ys ++ [y]))))
section
variable {X : Cx}
theorem blk_ok {pins : List (Addr × Obj)} {σ : St} {H : Hp} {s : Shared} {N' : List Str} {scope : Scope} {cl : List (Str × Addr)} {fp : List Addr} (I : Inv X pins σ H s) (hkind : scope.kind = .function)
    (hcl : ∀ y c, cl.lookup y = some c → X.env.cells.lookup y = some c) (hhas : ∀ y, ((relabel scope X.env).names.lookup y = some .cell ∨ (relabel scope X.env).names.lookup y = some .free) → ∃ c, cl.lookup y = some c)
    (hf : ∀ b ∈ fp, FpOk X pins H b) (hlt : ∀ b ∈ fp, b < s.heap.objs.size) : (blk X N' scope cl s.heap.objs.size fp s H).Ok where
  mod := I.ok.mod
  kind := by simp [blk, compEnvC, relabel, hkind]
  glob := I.ok.glob
  blt := I.ok.blt
  above := Nat.le_refl _
  inj := fun x y c h1 h2 => I.ok.inj x y c (hcl x c h1) (hcl y c h2)
  has := fun x h => hhas x h
  cab := fun x c h => nomatch h
  hd := I.ok.hd
  frames := I.ok.frames
  stk := .inl rfl
  exf := fun b hb => ⟨Nat.ne_of_lt (hlt b hb), fun x c e => (hf b hb).2.2.2.2.1 x c (hcl x c e)⟩
  bs := I.bs
  bsz := Nat.le_trans I.ok.bsz I.sz
  noex := fun b o e hb => by
    rcases (hf b hb).2.2.2.1 with z | z
    · exact I.ok.noex b o e z
    · exact absurd (Nat.lt_of_lt_of_le (Heap.lt_size e) (Nat.le_trans I.ok.bsz z)) (Nat.lt_irrefl _)
  exfs := fun b hb z => by
    rcases List.mem_cons.mp (I.stkSub b z) with e | e
    · exact (hf b hb).2.1 e
    · exact (hf b hb).2.2.1 e
  funs := I.stack
  frf := I.stkFree
end
end L2

set_option linter.all false
set_option maxRecDepth 100000
set_option maxHeartbeats 4000000
namespace L2
open PySem PySem.Spec PyProof.Rows
/-! ### readings by what they give -/
def Gv (t : TE) (σ : St) (H : Hp) (R : V → Hp → Prop) : Prop := ∀ Q : VK, (∀ v H', R v H' → Q v H') → t σ H Q
def GvT (t : TT) (σ : St) (H : Hp) (R : Bool → Hp → Prop) : Prop := ∀ Q : Bool → Hp → Prop, (∀ v H', R v H' → Q v H') → t σ H Q
def GvA (t : TA) (σ : St) (H : Hp) (R : List V → Hp → Prop) : Prop := ∀ Q : List V → Hp → Prop, (∀ v H', R v H' → Q v H') → t σ H Q
/-- one value, the heap as it is -/
def Pu (t : TE) (σ : St) (H : Hp) (v : V) : Prop := ∀ Q : VK, Q v H → t σ H Q
def PuT (t : TT) (σ : St) (H : Hp) (b : Bool) : Prop := ∀ Q : Bool → Hp → Prop, Q b H → t σ H Q
def PuA (t : TA) (σ : St) (H : Hp) (vs : List V) : Prop := ∀ Q : List V → Hp → Prop, Q vs H → t σ H Q
def Is1 (v : V) (H : Hp) : V → Hp → Prop := fun w H' => w = v ∧ H' = H
section
variable {σ : St} {H : Hp} {t ta tb tc : TE} {x y z v : V} {i j : Int} {b c : Bool}
theorem Pu.gv (h : Pu t σ H v) : Gv t σ H (Is1 v H) := fun Q q => h Q (q v H ⟨rfl, rfl⟩)
theorem Pu.gv' {R : V → Hp → Prop} (h : Pu t σ H v) (r : R v H) : Gv t σ H R := fun Q q => h Q (q v H r)
theorem pu_v {k : Nat} (h : σ[k]? = some (some v)) : Pu (tVar k) σ H v := fun _ q => ⟨v, h, q⟩
theorem pu_c : Pu (tC v) σ H v := fun _ q => q
theorem pu_add (ha : Pu ta σ H (.int i)) (hb : Pu tb σ H (.int j)) : Pu (tOp (rI0 fun i j => .int (i + j)) ta tb) σ H (.int (i + j)) := fun _ q => ha _ (hb _ ⟨i, j, rfl, rfl, q⟩)
theorem pu_sub (ha : Pu ta σ H (.int i)) (hb : Pu tb σ H (.int j)) : Pu (tOp (rI0 fun i j => .int (i - j)) ta tb) σ H (.int (i - j)) := fun _ q => ha _ (hb _ ⟨i, j, rfl, rfl, q⟩)
theorem pu_mul (ha : Pu ta σ H (.int i)) (hb : Pu tb σ H (.int j)) (hm : IntMulOk i j) : Pu (tOp (rI IntMulOk fun i j => .int (i * j)) ta tb) σ H (.int (i * j)) := fun _ q => ha _ (hb _ ⟨i, j, rfl, rfl, hm, q⟩)
theorem pu_fdiv (ha : Pu ta σ H (.int i)) (hb : Pu tb σ H (.int j)) (hm : CDivB i j) : Pu (tOp (rI CDivB fun i j => .int (i.fdiv j)) ta tb) σ H (.int (i.fdiv j)) := fun _ q => ha _ (hb _ ⟨i, j, rfl, rfl, hm, q⟩)
theorem pu_mod (ha : Pu ta σ H (.int i)) (hb : Pu tb σ H (.int j)) (hm : j ≠ 0) : Pu (tOp (rI (fun _ j => j ≠ 0) fun i j => .int (i.fmod j)) ta tb) σ H (.int (i.fmod j)) := fun _ q => ha _ (hb _ ⟨i, j, rfl, rfl, hm, q⟩)
theorem pu_pow (ha : Pu ta σ H (.int i)) (hb : Pu tb σ H (.int j)) (hm : CPow i j) : Pu (tOp (rI CPow fun i j => .int (i ^ j.toNat)) ta tb) σ H (.int (i ^ j.toNat)) := fun _ q => ha _ (hb _ ⟨i, j, rfl, rfl, hm, q⟩)
theorem pu_neg (ha : Pu ta σ H (.int i)) : Pu (tUn (rU fun i => .int (-i)) ta) σ H (.int (-i)) := fun _ q => ha _ ⟨i, rfl, q⟩
theorem pu_lt (ha : Pu ta σ H (.int i)) (hb : Pu tb σ H (.int j)) : Pu (tOp (rI0 fun i j => .bl (decide (i < j))) ta tb) σ H (.bl (decide (i < j))) := fun _ q => ha _ (hb _ ⟨i, j, rfl, rfl, q⟩)
theorem pu_le (ha : Pu ta σ H (.int i)) (hb : Pu tb σ H (.int j)) : Pu (tOp (rI0 fun i j => .bl (decide (i ≤ j))) ta tb) σ H (.bl (decide (i ≤ j))) := fun _ q => ha _ (hb _ ⟨i, j, rfl, rfl, q⟩)
theorem pu_gt (ha : Pu ta σ H (.int i)) (hb : Pu tb σ H (.int j)) : Pu (tOp (rI0 fun i j => .bl (decide (j < i))) ta tb) σ H (.bl (decide (j < i))) := fun _ q => ha _ (hb _ ⟨i, j, rfl, rfl, q⟩)
theorem pu_ge (ha : Pu ta σ H (.int i)) (hb : Pu tb σ H (.int j)) : Pu (tOp (rI0 fun i j => .bl (decide (j ≤ i))) ta tb) σ H (.bl (decide (j ≤ i))) := fun _ q => ha _ (hb _ ⟨i, j, rfl, rfl, q⟩)
theorem pu_eqI (ha : Pu ta σ H (.int i)) (hb : Pu tb σ H (.int j)) : Pu (tOp rEq ta tb) σ H (.bl (decide (i = j))) := fun _ q => ha _ (hb _ ⟨rfl, by rw [dec_int, Bool.beq_eq_decide_eq]; exact q⟩)
theorem pu_neI (ha : Pu ta σ H (.int i)) (hb : Pu tb σ H (.int j)) : Pu (tOp rNe ta tb) σ H (.bl (!decide (i = j))) := fun _ q => ha _ (hb _ ⟨rfl, by rw [dec_int, Bool.beq_eq_decide_eq]; exact q⟩)
theorem pu_neB (ha : Pu ta σ H (.bl b)) (hb : Pu tb σ H (.bl c)) : Pu (tOp rNe ta tb) σ H (.bl (!(b == c))) := fun _ q => ha _ (hb _ ⟨rfl, by rw [dec_bl]; exact q⟩)
theorem pu_ixT {K : PySem.W.Frag} {p : Addr} {xs : List V} (ha : Pu ta σ H (.ref p)) (hb : Pu tb σ H (.int i)) (h : SqT K H p xs) (e : atI xs i = some v) : Pu (tOp (rIxT K) ta tb) σ H v := fun _ q => ha _ (hb _ ⟨p, xs, i, v, rfl, rfl, h, e, q⟩)
theorem pu_ixL {K : PySem.W.Frag} {p : Addr} {xs : List V} (ha : Pu ta σ H (.ref p)) (hb : Pu tb σ H (.int i)) (h : SqL K H p xs) (e : atI xs i = some v) : Pu (tOp (rIxL K) ta tb) σ H v := fun _ q => ha _ (hb _ ⟨p, xs, i, v, rfl, rfl, h, e, q⟩)
theorem pa_n : PuA tNil σ H [] := fun _ q => q
theorem pa_c {tr : TA} {vs : List V} (ha : Pu ta σ H x) (hr : PuA tr σ H vs) : PuA (tCons ta tr) σ H (x :: vs) := fun _ q => ha _ (hr _ q)
theorem pu_lenL {K : PySem.W.Frag} {p : Addr} {ys : List V} {t : TA} (ha : PuA t σ H [.ref p]) (h : SqL K H p ys) : Pu (tCB (fun xs H Q => ∃ p ys, xs = [.ref p] ∧ (SqL K H p ys ∨ SqT K H p ys) ∧ Q (.int ys.length) H) t) σ H (.int ys.length) := fun _ q => ha _ ⟨p, ys, rfl, .inl h, q⟩
theorem pu_lenT {K : PySem.W.Frag} {p : Addr} {ys : List V} {t : TA} (ha : PuA t σ H [.ref p]) (h : SqT K H p ys) : Pu (tCB (fun xs H Q => ∃ p ys, xs = [.ref p] ∧ (SqL K H p ys ∨ SqT K H p ys) ∧ Q (.int ys.length) H) t) σ H (.int ys.length) := fun _ q => ha _ ⟨p, ys, rfl, .inr h, q⟩
theorem pu_abs {t : TA} (ha : PuA t σ H [.int i]) : Pu (tCB (fun xs H Q => ∃ i, xs = [.int i] ∧ Q (.int (if i < 0 then -i else i)) H) t) σ H (.int (i.natAbs : Int)) := fun _ q => ha _ ⟨i, rfl, by
  rw [show (if i < 0 then -i else i) = (i.natAbs : Int) by split <;> omega]; exact q⟩
theorem pu_isi {K : PySem.W.Frag} {n : String} {u : Value} {t : TA} (ha : PuA t σ H [x, .ty n]) (ty : TyOf K H x u) (e : PySem.W.kitOne K u (.type n) = some b) :
    Pu (tCB (fun xs H Q => ∃ x n t b, xs = [x, .ty n] ∧ TyOf K H x t ∧ PySem.W.kitOne K t (.type n) = some b ∧ Q (.bl b) H) t) σ H (.bl b) := fun _ q => ha _ ⟨x, n, u, b, rfl, ty, e, q⟩
theorem pu_eqT {K : PySem.W.Frag} {ns ms : List Int} (ha : Pu ta σ H x) (hb : Pu tb σ H y) (h1 : TupI K H x ns) (h2 : TupI K H y ms) : Pu (tOp (rEqTI K false) ta tb) σ H (.bl (decide (ns = ms))) := fun _ q => ha _ (hb _ ⟨ns, ms, h1, h2, q⟩)
/-! tests -/
theorem pt_t (h : Pu t σ H (.bl b)) : PuT (tTest t) σ H b := fun _ q => h _ ⟨b, rfl, q⟩
theorem pt_b (h : Pu t σ H (.bl b)) : PuT (tB t) σ H b := fun _ q => h _ ⟨b, rfl, q⟩
theorem pt_n {t : TT} (h : PuT t σ H b) : PuT (tNot t) σ H (!b) := fun _ q => h _ q
theorem pt_and {t u : TT} (h : PuT t σ H b) (g : b = true → PuT u σ H c) : PuT (tAnd t u) σ H (b && c) := fun Q q => h _ (by
  cases b with
  | true => rw [if_pos rfl]; exact g rfl Q (by simpa using q)
  | false => rw [if_neg Bool.false_ne_true]; simpa using q)
theorem pt_or {t u : TT} (h : PuT t σ H b) (g : b = false → PuT u σ H c) : PuT (tOr t u) σ H (b || c) := fun Q q => h _ (by
  cases b with
  | false => rw [if_neg Bool.false_ne_true]; exact g rfl Q (by simpa using q)
  | true => rw [if_pos rfl]; simpa using q)
theorem pu_and (h : Pu ta σ H (.bl b)) (g : b = true → Pu tb σ H (.bl c)) : Pu (tAndV ta tb) σ H (.bl (b && c)) := fun Q q => h _ ⟨b, rfl, by
  cases b with
  | true => rw [if_pos rfl]; exact g rfl Q (by simpa using q)
  | false => rw [if_neg Bool.false_ne_true]; simpa using q⟩
theorem pu_or (h : Pu ta σ H (.bl b)) (g : b = false → Pu tb σ H (.bl c)) : Pu (tOrV ta tb) σ H (.bl (b || c)) := fun Q q => h _ ⟨b, rfl, by
  cases b with
  | false => rw [if_neg Bool.false_ne_true]; exact g rfl Q (by simpa using q)
  | true => rw [if_pos rfl]; simpa using q⟩
theorem pu_not (h : Pu ta σ H (.bl b)) : Pu (tNotV ta) σ H (.bl (!b)) := fun _ q => h _ ⟨b, rfl, q⟩
/-! tests with calls that lay things -/
theorem gt_b {R : V → Hp → Prop} (h : Gv t σ H R) (f : ∀ v H', R v H' → ∃ c, v = .bl c) : GvT (tB t) σ H (fun c H' => R (.bl c) H') := fun Q q => h _ fun v H' r => by
  obtain ⟨c, rfl⟩ := f v H' r
  exact ⟨c, rfl, q c H' r⟩
theorem gt_or {t u : TT} {R R' : Bool → Hp → Prop} (h : GvT t σ H R) (g : ∀ H', R false H' → GvT u σ H' R') (e : ∀ H', R true H' → R' true H') : GvT (tOr t u) σ H R' := fun Q q => h _ fun v H' r => by
  cases v with
  | false => rw [if_neg Bool.false_ne_true]; exact g H' r Q q
  | true => rw [if_pos rfl]; exact q _ _ (e H' r)
/-! statements -/
variable {te : TE} {D : Ends} {rest u : TS} {k : Nat}
theorem st_set (h : Pu te σ H v) (q : rest D (σ.set k (some v)) H) : tSeq (tAsg te (gName k)) rest D σ H := h _ q
theorem st_setG {R : V → Hp → Prop} (h : Gv te σ H R) (q : ∀ v H', R v H' → rest D (σ.set k (some v)) H') : tSeq (tAsg te (gName k)) rest D σ H := h _ q
theorem st_set1 (h : Pu te σ H v) (q : D.nx (σ.set k (some v)) H) : tAsg te (gName k) D σ H := h _ q
theorem st_setG1 {R : V → Hp → Prop} (h : Gv te σ H R) (q : ∀ v H', R v H' → D.nx (σ.set k (some v)) H') : tAsg te (gName k) D σ H := h _ q
theorem st_ret (h : Pu te σ H v) (q : D.rt v H) : tRet te D σ H := h _ q
theorem st_retG {R : V → Hp → Prop} (h : Gv te σ H R) (q : ∀ v H', R v H' → D.rt v H') : tRet te D σ H := h _ q
theorem st_exprG {R : V → Hp → Prop} (h : Gv te σ H R) (q : ∀ v H', R v H' → rest D σ H') : tSeq (tDrop te) rest D σ H := h _ q
theorem st_exprG1 {R : V → Hp → Prop} (h : Gv te σ H R) (q : ∀ v H', R v H' → D.nx σ H') : tDrop te D σ H := h _ q
theorem st_if {tc : TT} {t u : TS} (h : PuT tc σ H b) (q1 : b = true → t { D with nx := rest D } σ H) (q2 : b = false → u { D with nx := rest D } σ H) : tSeq (tIfS tc t u) rest D σ H := h _ (by
  cases b with
  | true => rw [if_pos rfl]; exact q1 rfl
  | false => rw [if_neg Bool.false_ne_true]; exact q2 rfl)
theorem st_if1 {tc : TT} {t u : TS} (h : PuT tc σ H b) (q1 : b = true → t D σ H) (q2 : b = false → u D σ H) : tIfS tc t u D σ H := h _ (by
  cases b with
  | true => rw [if_pos rfl]; exact q1 rfl
  | false => rw [if_neg Bool.false_ne_true]; exact q2 rfl)
theorem st_ifG {tc : TT} {t u : TS} {R : Bool → Hp → Prop} (h : GvT tc σ H R) (q1 : ∀ H', R true H' → t { D with nx := rest D } σ H') (q2 : ∀ H', R false H' → u { D with nx := rest D } σ H') : tSeq (tIfS tc t u) rest D σ H := h _ fun b H' r => by
  cases b with
  | true => rw [if_pos rfl]; exact q1 H' r
  | false => rw [if_neg Bool.false_ne_true]; exact q2 H' r
theorem st_ifG1 {tc : TT} {t u : TS} {R : Bool → Hp → Prop} (h : GvT tc σ H R) (q1 : ∀ H', R true H' → t D σ H') (q2 : ∀ H', R false H' → u D σ H') : tIfS tc t u D σ H := h _ fun b H' r => by
  cases b with
  | true => rw [if_pos rfl]; exact q1 H' r
  | false => rw [if_neg Bool.false_ne_true]; exact q2 H' r
/-! calls -/
variable {sp : Sp} {E : XK}
theorem pu_call {t : TA} {vs : List V} (h : PuA t σ H vs) (hs : ∀ Q, Q v H → sp (vs ++ []) H Q E) : Pu (tCall sp [] E t) σ H v := fun Q q => h _ (hs Q q)
theorem gv_call {t : TA} {vs : List V} {R : V → Hp → Prop} (h : PuA t σ H vs) (hs : ∀ Q : VK, (∀ v H', R v H' → Q v H') → sp (vs ++ []) H Q E) : Gv (tCall sp [] E t) σ H R := fun Q q => h _ (hs Q q)
theorem gv_callA {t : TA} {R : V → Hp → Prop} {RA : List V → Hp → Prop} (h : GvA t σ H RA) (hs : ∀ vs H1, RA vs H1 → ∀ Q : VK, (∀ v H', R v H' → Q v H') → sp (vs ++ []) H1 Q E) : Gv (tCall sp [] E t) σ H R := fun Q q => h _ fun vs H1 r => hs vs H1 r Q q
theorem ga_nil : GvA tNil σ H (fun vs H' => vs = [] ∧ H' = H) := fun Q q => q _ _ ⟨rfl, rfl⟩
theorem ga_cons {tr : TA} {R1 : V → Hp → Prop} {R2 : V → Hp → List V → Hp → Prop} (h : Gv ta σ H R1) (g : ∀ x H1, R1 x H1 → GvA tr σ H1 (R2 x H1)) :
    GvA (tCons ta tr) σ H (fun vs H' => ∃ x H1 r, vs = x :: r ∧ R1 x H1 ∧ R2 x H1 r H') := fun Q q => h _ fun x H1 r1 => g x H1 r1 _ fun r H' r2 => q _ _ ⟨x, H1, r, rfl, r1, r2⟩
/-! new tuples and lists -/
theorem gv_tup {t : TA} {vs : List V} (h : PuA t σ H vs) (hz : vs.length ≤ sizeLine) : Gv (tTup t) σ H (fun v H' => ∃ p, H p = none ∧ v = .ref p ∧ H' = upd H p (.tup vs)) := fun Q q => h _ ⟨hz, fun p hp => q _ _ ⟨p, hp, rfl, rfl⟩⟩
theorem gv_lst {t : TA} {vs : List V} (h : PuA t σ H vs) (hz : vs.length ≤ sizeLine) : Gv (tLst t) σ H (fun v H' => ∃ p, H p = none ∧ v = .ref p ∧ H' = upd H p (.lst vs)) := fun Q q => h _ ⟨hz, fun p hp => q _ _ ⟨p, hp, rfl, rfl⟩⟩
end
/-! ### frames of the heap -/
theorem Same.upd {H : Hp} {p : Addr} {o : HO} (h : H p = none) : Same H (upd H p o) := fun b u e => by rw [upd_ne (ne_of_none e h)]; exact e
/-- all is as it was but at one place -/
def SameB (l : Addr) (H H' : Hp) : Prop := ∀ b o, H b = some o → b ≠ l → H' b = some o
theorem Same.b {H H' : Hp} {l : Addr} (e : Same H H') : SameB l H H' := fun b o h _ => e b o h
theorem SameB.refl (l : Addr) (H : Hp) : SameB l H H := fun _ _ h _ => h
theorem SameB.trans {l : Addr} {H H1 H2 : Hp} (a : SameB l H H1) (b : SameB l H1 H2) : SameB l H H2 := fun c o h n => b c o (a c o h n) n
theorem SameB.upd {l : Addr} {H : Hp} {o : HO} : SameB l H (upd H l o) := fun b u e n => by rw [upd_ne n]; exact e
/-! ### defs -/
structure Fn (K : PySem.W.Frag) (mg : Str → Option Value) (x : Str) (st : Stmt) (f : Addr) (fd : FuncData) (ps : List Str) : Prop where
  F : Fun K x x st f fd
  b : Binds K fd ps []
  m : mg x = some (.ref f)
section
variable {X : Cx} {x : Str} {st : Stmt} {f : Addr} {fd : FuncData} {ps : List Str} {sp : Sp} {k j : Nat} {e : Expr} {es : List Expr} {t : TA} {p pos : Pos}
theorem pe_fn (T : Fn X.K X.mg x st f fd ps) (G : FnOk X.prog X.w X.K X.mg X.base CX0 k f fd ps sp) (hr : Room j X.A) (hj : k ≤ j) (ha : PA X (e :: es) t) (hg : Gl X x := by rfl) (hdb : (x == ("__debug__" : Str)) = false := by decide)
    (he : starEach (e :: es) X.env = (false, eval e X.env) :: starEach es X.env := by rfl) (hpl : (backTo pos (starEach es X.env)).any (·.1) = false := by rfl) : PE X (.Call (.Name x p) (e :: es) [] pos) (tCall sp [] E0 t) :=
  pe_call G (hr.mono hj) hg T.m T.F.kp T.b .nil pass0 ha hdb he hpl
/-- a type's name -/
theorem pe_ty {n : Str} {T : String} {pos : Pos} (hm : X.mg n = none) (hv : bootBuiltins n = some (.type T)) (hg : Gl X n := by rfl) (hn : n ≠ "__name__" := by decide) (hd : (n == ("__debug__" : Str)) = false := by decide) : PE X (.Name n pos) (tC (.ty T)) :=
  pe_bltn hg hm hv rfl hn hd
end
/-! ### the forms one uses -/
end L2

set_option linter.all false
namespace L2
/-! ### lowest terms -/
def gS (a b : Int) : Int := if b < 0 then -(Int.gcd a b : Int) else (Int.gcd a b : Int)
theorem fdiv_mul_self {k x : Int} (h : k ≠ 0) : (k * x).fdiv k = x := Int.mul_fdiv_cancel_left x h
theorem gS_ne' {a b : Int} (h : b ≠ 0) : gS a b ≠ 0 := by
  have := Int.gcd_pos_of_ne_zero_right a h
  unfold gS; split <;> omega
/-- what it has -/
theorem low_has {n m : Int} (hm : m ≠ 0) : 0 < m.fdiv (gS n m) ∧ Int.gcd (n.fdiv (gS n m)) (m.fdiv (gS n m)) = 1 ∧ n.fdiv (gS n m) * m = n * m.fdiv (gS n m) := by
  have hp := Int.gcd_pos_of_ne_zero_right n hm
  obtain ⟨x, hx⟩ : gS n m ∣ n := by
    unfold gS; split
    · exact Int.neg_dvd.mpr (Int.gcd_dvd_left n m)
    · exact Int.gcd_dvd_left n m
  obtain ⟨y, hy⟩ : gS n m ∣ m := by
    unfold gS; split
    · exact Int.neg_dvd.mpr (Int.gcd_dvd_right n m)
    · exact Int.gcd_dvd_right n m
  have hg := gS_ne' (a := n) hm
  have e1 : n.fdiv (gS n m) = x := by
    conv => lhs; rw [hx]
    rw [← hx]
    conv => lhs; arg 1; rw [hx]
    exact fdiv_mul_self hg
  have e2 : m.fdiv (gS n m) = y := by
    conv => lhs; arg 1; rw [hy]
    exact fdiv_mul_self hg
  rw [e1, e2]
  have hab : (gS n m).natAbs = Int.gcd n m := by unfold gS; split <;> omega
  have hgcd : Int.gcd x y = 1 := by
    have : Int.gcd n m = Int.gcd (gS n m * x) (gS n m * y) := by rw [← hx, ← hy]
    rw [Int.gcd_mul_left, hab] at this
    have h1 : Int.gcd n m * 1 = Int.gcd n m * Int.gcd x y := by rw [Nat.mul_one]; exact this
    exact (Nat.eq_of_mul_eq_mul_left hp h1).symm
  refine ⟨?_, hgcd, ?_⟩
  · generalize hG : gS n m = G at *
    have hs : (m < 0 → G < 0) ∧ (¬ m < 0 → 0 < G) := by
      constructor
      · intro h
        rw [← hG]; unfold gS; rw [if_pos h]; omega
      · intro h
        rw [← hG]; unfold gS; rw [if_neg h]; omega
    by_cases h : m < 0
    · have h1 := hs.1 h
      by_cases h2 : 0 < y
      · exact h2
      · exfalso
        have := Int.mul_nonneg_of_nonpos_of_nonpos (a := G) (b := y) (by omega) (by omega)
        omega
    · have h1 := hs.2 h
      by_cases h2 : 0 < y
      · exact h2
      · exfalso
        have := Int.mul_nonpos_of_nonneg_of_nonpos (a := G) (b := y) (by omega) (by omega)
        omega
  · generalize hG : gS n m = G at *
    rw [hx, hy]
    grind
theorem low_le {n m : Int} (hm : m ≠ 0) : (n.fdiv (gS n m)).natAbs ≤ n.natAbs ∧ (m.fdiv (gS n m)).natAbs ≤ m.natAbs := by
  have hg := gS_ne' (a := n) hm
  have key : ∀ z, gS n m ∣ z → (z.fdiv (gS n m)).natAbs ≤ z.natAbs := by
    intro z hz
    obtain ⟨x, hx⟩ := hz
    have e : z.fdiv (gS n m) = x := by
      conv => lhs; arg 1; rw [hx]
      exact fdiv_mul_self hg
    rw [e, hx, Int.natAbs_mul]
    have h1 : 1 ≤ (gS n m).natAbs := by omega
    calc x.natAbs = 1 * x.natAbs := (Nat.one_mul _).symm
      _ ≤ (gS n m).natAbs * x.natAbs := Nat.mul_le_mul_right _ h1
  constructor
  · apply key
    unfold gS; split
    · exact Int.neg_dvd.mpr (Int.gcd_dvd_left n m)
    · exact Int.gcd_dvd_left n m
  · apply key
    unfold gS; split
    · exact Int.neg_dvd.mpr (Int.gcd_dvd_right n m)
    · exact Int.gcd_dvd_right n m
end L2

set_option linter.all false
namespace L2
/-! ### points of the plane by three numbers -/
structure Pt3 where
  x : Int
  y : Int
  z : Int
def lex (w u : Int) : Bool := if w = 0 then decide (0 < u) else decide (0 < w)
def ahd (p q : Pt3) : Bool := if p.x * q.z = q.x * p.z then decide (p.y * q.z < q.y * p.z) else decide (p.x * q.z < q.x * p.z)
def sgn (x : Int) : Int := if 0 < x then 1 else if x < 0 then -1 else 0
def det (p q r : Pt3) : Int := (p.y * q.z - p.z * q.y) * r.x + (p.z * q.x - p.x * q.z) * r.y + (p.x * q.y - p.y * q.x) * r.z
def onB (p a b : Pt3) : Bool := if det a b p = 0 then (if ahd a b = true then !ahd p a && !ahd b p else !ahd p b && !ahd a p) else false
/-- in lowest terms at these homogeneous numbers -/
structure Is3 (A B C : Int) (r : Pt3) : Prop where
  pos : 0 < r.z
  cop : Int.gcd (Int.gcd r.z r.x) r.y = 1
  ex : ∃ d, 0 < d ∧ A = d * r.x ∧ B = d * r.y ∧ C = d * r.z
def Apart (p q : Pt3) : Prop := ¬ (p.x * q.z = q.x * p.z ∧ p.y * q.z = q.y * p.z)
theorem lex_pos {k w u : Int} (h : 0 < k) : lex (k * w) (k * u) = lex w u := by
  unfold lex
  by_cases hw : w = 0
  · subst hw
    simp only [Int.mul_zero, if_true]
    by_cases hu : 0 < u
    · simp [hu, Int.mul_pos h hu]
    · have : ¬ 0 < k * u := by
        have := Int.mul_nonpos_of_nonneg_of_nonpos (a := k) (b := u) (by omega) (by omega)
        omega
      simp [hu, this]
  · have hk : k * w ≠ 0 := Int.mul_ne_zero (by omega) hw
    rw [if_neg hk, if_neg hw]
    by_cases hp : 0 < w
    · simp [hp, Int.mul_pos h hp]
    · have : ¬ 0 < k * w := by
        have := Int.mul_nonpos_of_nonneg_of_nonpos (a := k) (b := w) (by omega) (by omega)
        omega
      simp [hp, this]
theorem ahd_lex (p q : Pt3) : ahd p q = lex (q.x * p.z - p.x * q.z) (q.y * p.z - p.y * q.z) := by
  unfold ahd lex
  by_cases h : p.x * q.z = q.x * p.z
  · rw [if_pos h, if_pos (by omega)]
    congr 1
    exact propext ⟨fun h => by omega, fun h => by omega⟩
  · rw [if_neg h, if_neg (by omega)]
    congr 1
    exact propext ⟨fun h => by omega, fun h => by omega⟩
theorem sgn_scale {k x : Int} (h : 0 < k) : sgn (k * x) = sgn x := by
  unfold sgn
  by_cases h1 : 0 < x
  · rw [if_pos (Int.mul_pos h h1), if_pos h1]
  · have n1 : ¬ 0 < k * x := by
      have := Int.mul_nonpos_of_nonneg_of_nonpos (a := k) (b := x) (by omega) (by omega)
      omega
    rw [if_neg n1, if_neg h1]
    by_cases h2 : x < 0
    · rw [if_pos (Int.mul_neg_of_pos_of_neg h h2), if_pos h2]
    · have : x = 0 := by omega
      subst this
      simp
theorem sgn_eq0 {x : Int} : sgn x = 0 ↔ x = 0 := by
  unfold sgn
  by_cases h1 : 0 < x
  · rw [if_pos h1]; omega
  · rw [if_neg h1]
    by_cases h2 : x < 0
    · rw [if_pos h2]; omega
    · rw [if_neg h2]; omega
theorem det_turn (p q r : Pt3) : (q.x * p.z - p.x * q.z) * (r.y * p.z - p.y * r.z) - (q.y * p.z - p.y * q.z) * (r.x * p.z - p.x * r.z) = p.z * det p q r := by
  unfold det; grind
theorem uniq3 {p q : Pt3} (hp : 0 < p.z) (hq : 0 < q.z) (gp : Int.gcd (Int.gcd p.z p.x) p.y = 1) (gq : Int.gcd (Int.gcd q.z q.x) q.y = 1) (h : ¬ Apart p q) : p.x = q.x ∧ p.y = q.y ∧ p.z = q.z := by
  have h' : p.x * q.z = q.x * p.z ∧ p.y * q.z = q.y * p.z := by
    unfold Apart at h; exact Decidable.of_not_not h
  have key : ∀ (a b : Pt3), Int.gcd (Int.gcd a.z a.x) a.y = 1 → a.x * b.z = b.x * a.z → a.y * b.z = b.y * a.z → a.z ∣ b.z := by
    intro a b g h1 h2
    have d1 : a.z ∣ ((Int.gcd a.z a.x : Nat) : Int) * b.z := by
      rw [← Int.dvd_natAbs, Int.natAbs_mul, Int.natAbs_natCast, ← Int.gcd_mul_right]
      exact Int.dvd_coe_gcd ⟨b.z, rfl⟩ ⟨b.x, by rw [h1, Int.mul_comm]⟩
    have d2 : a.z ∣ a.y * b.z := ⟨b.y, by rw [h2, Int.mul_comm]⟩
    have d3 : a.z ∣ ((Int.gcd ((Int.gcd a.z a.x : Nat) : Int) a.y : Nat) : Int) * b.z := by
      rw [← Int.dvd_natAbs, Int.natAbs_mul, Int.natAbs_natCast, ← Int.gcd_mul_right]
      exact Int.dvd_coe_gcd d1 d2
    rw [g] at d3
    simpa using d3
  have z1 := key p q gp h'.1 h'.2
  have z2 := key q p gq h'.1.symm h'.2.symm
  have ez : p.z = q.z := Int.dvd_antisymm (by omega) (by omega) z1 z2
  refine ⟨?_, ?_, ez⟩
  · have := h'.1
    rw [ez] at this
    exact Int.eq_of_mul_eq_mul_right (by omega) this
  · have := h'.2
    rw [ez] at this
    exact Int.eq_of_mul_eq_mul_right (by omega) this
theorem pt_has {a b c : Int} (hc : 0 < c) : let d : Int := Int.gcd (Int.gcd c a) b; Is3 a b c ⟨a.fdiv d, b.fdiv d, c.fdiv d⟩ ∧ 0 < d := by
  intro d
  have p1 : 0 < Int.gcd c a := Int.gcd_pos_of_ne_zero_left a (by omega)
  have p2 : 0 < Int.gcd ((Int.gcd c a : Nat) : Int) b := Int.gcd_pos_of_ne_zero_left b (by omega)
  have hd : 0 < d := by show 0 < ((Int.gcd ((Int.gcd c a : Nat) : Int) b : Nat) : Int); omega
  have dg : d ∣ ((Int.gcd c a : Nat) : Int) := Int.gcd_dvd_left _ _
  obtain ⟨z, hz⟩ : d ∣ c := Int.dvd_trans dg (Int.gcd_dvd_left c a)
  obtain ⟨x, hx⟩ : d ∣ a := Int.dvd_trans dg (Int.gcd_dvd_right c a)
  obtain ⟨y, hy⟩ : d ∣ b := Int.gcd_dvd_right _ _
  have ex : a.fdiv d = x := by
    conv => lhs; arg 1; rw [hx]
    exact fdiv_mul_self (by omega)
  have ey : b.fdiv d = y := by
    conv => lhs; arg 1; rw [hy]
    exact fdiv_mul_self (by omega)
  have ez : c.fdiv d = z := by
    conv => lhs; arg 1; rw [hz]
    exact fdiv_mul_self (by omega)
  rw [ex, ey, ez]
  refine ⟨⟨?_, ?_, d, hd, hx, hy, hz⟩, hd⟩
  · show 0 < z
    by_cases h : 0 < z
    · exact h
    · have := Int.mul_nonpos_of_nonneg_of_nonpos (a := d) (b := z) (by omega) (by omega)
      omega
  · show Int.gcd ((Int.gcd z x : Nat) : Int) y = 1
    have h1 : Int.gcd c a = d.natAbs * Int.gcd z x := by
      conv => lhs; rw [hz, hx]
      exact Int.gcd_mul_left d z x
    have h2 : d.natAbs = d.natAbs * Int.gcd ((Int.gcd z x : Nat) : Int) y := by
      have h3 : ((Int.gcd c a : Nat) : Int) = d * ((Int.gcd z x : Nat) : Int) := by
        rw [h1]
        have : ((d.natAbs : Nat) : Int) = d := by omega
        rw [Int.natCast_mul, this]
      have h4 : Int.gcd ((Int.gcd c a : Nat) : Int) b = d.natAbs * Int.gcd ((Int.gcd z x : Nat) : Int) y := by
        conv => lhs; rw [h3, hy]
        exact Int.gcd_mul_left d _ y
      exact h4
    have h5 : d.natAbs * 1 = d.natAbs * Int.gcd ((Int.gcd z x : Nat) : Int) y := by rw [Nat.mul_one]; exact h2
    exact (Nat.eq_of_mul_eq_mul_left (by omega) h5).symm
theorem Is3.le {A B C : Int} {r : Pt3} (h : Is3 A B C r) : r.x.natAbs ≤ A.natAbs ∧ r.y.natAbs ≤ B.natAbs ∧ r.z.natAbs ≤ C.natAbs := by
  obtain ⟨d, hd, e1, e2, e3⟩ := h.ex
  have key : ∀ z, z.natAbs ≤ (d * z).natAbs := fun z => by
    rw [Int.natAbs_mul]
    calc z.natAbs = 1 * z.natAbs := (Nat.one_mul _).symm
      _ ≤ d.natAbs * z.natAbs := Nat.mul_le_mul_right _ (by omega)
  exact ⟨by rw [e1]; exact key _, by rw [e2]; exact key _, by rw [e3]; exact key _⟩
end L2

set_option linter.all false
set_option maxRecDepth 100000
set_option maxHeartbeats 4000000
namespace L2
open PySem PySem.Spec PyProof.Rows
section
variable {X : Cx}
def rGetL (K : PySem.W.Frag) : V → V → Hp → VK → Prop := fun x y H Q => ∃ p xs i v, x = .ref p ∧ y = .int i ∧ 0 ≤ i ∧ SqL K H p xs ∧ atI xs i = some v ∧ Q v H
theorem get_list : PGet X (rGetL X.K) := by
  intro pins s σ H x y v u Q I rx ry h
  obtain ⟨p, xs, i, z, rfl, rfl, h0, hq, he, q⟩ := h
  cases rx
  obtain ⟨t, rfl⟩ := ry
  obtain ⟨its, r, pl, hz⟩ := I.list hq
  obtain ⟨j, h1, h2, h3, h4, h5⟩ := atI_get he
  obtain ⟨w, ew, rw'⟩ := r.get h2
  have hn := line63
  have hj : i.toNat = j := by
    rw [seqIndex_of h0 h5] at h1
    exact Option.some.inj h1
  exact wpAny_getItem_list pl.isList h0 (by omega) (by rw [hj]; simpa using ew) ⟨z, H, I, rw', q⟩
end
section
variable {σ : St} {H : Hp} {D : Ends} {rest : TS} {te to ti : TE} {v : V} {p : Addr} {xs : List V} {k i : Int} {j : Nat}
theorem st_put (h : Pu te σ H v) (ho : Pu to σ H (.ref p)) (hi : Pu ti σ H (.int k)) (hp : H p = some (.lst xs)) (hj : ixN xs.length k = some j) (q : rest D σ (upd H p (.lst (xs.set j v)))) : tSeq (tAsg te (gSub to ti rSetL)) rest D σ H :=
  h _ (ho _ (hi _ ⟨p, xs, k, j, rfl, rfl, hp, hj, q⟩))
theorem st_put1 (h : Pu te σ H v) (ho : Pu to σ H (.ref p)) (hi : Pu ti σ H (.int k)) (hp : H p = some (.lst xs)) (hj : ixN xs.length k = some j) (q : D.nx σ (upd H p (.lst (xs.set j v)))) : tAsg te (gSub to ti rSetL) D σ H :=
  h _ (ho _ (hi _ ⟨p, xs, k, j, rfl, rfl, hp, hj, q⟩))
theorem st_augI {K : PySem.W.Frag} {f : Int → Int → Int} {a b : Int} (ho : Pu to σ H (.ref p)) (hi : Pu ti σ H (.int k)) (h0 : 0 ≤ k) (hp : H p = some (.lst xs)) (ha : atI xs k = some (.int a)) (h : Pu te σ H (.int b)) (hj : ixN xs.length k = some j)
    (q : rest D σ (upd H p (.lst (xs.set j (.int (f a b)))))) : tSeq (tAugS to ti te (rGetL K) (ipI f) rSetL) rest D σ H :=
  ho _ (hi _ ⟨p, xs, k, .int a, rfl, rfl, h0, SqL.of hp, ha, h _ ⟨a, b, rfl, rfl, p, xs, k, j, rfl, rfl, hp, hj, q⟩⟩)
theorem st_while {c : TT} {tb : TS} (Pv : St → Hp → Prop) (μ : St → Hp → Nat) (h0 : Pv σ H)
    (hs : ∀ σ H, Pv σ H → ∃ b, PuT c σ H b ∧ (b = true → tb { D with nx := fun σ' H' => Pv σ' H' ∧ μ σ' H' < μ σ H, ct := fun σ' H' => Pv σ' H' ∧ μ σ' H' < μ σ H, bk := rest D } σ H) ∧ (b = false → rest D σ H)) :
    tSeq (tWhile c tb) rest D σ H := by
  refine ⟨fun m σ H => m = μ σ H ∧ Pv σ H, ⟨_, rfl, h0⟩, ?_⟩
  rintro m σ H ⟨rfl, p⟩
  obtain ⟨b, hb, h1, h2⟩ := hs σ H p
  refine hb _ ?_
  cases b with
  | true => rw [if_pos rfl]; exact ⟨_, fun σ' H' ⟨p', l⟩ => ⟨_, l, rfl, p'⟩, h1 rfl⟩
  | false => rw [if_neg Bool.false_ne_true]; exact h2 rfl
/-- for k in range(n) -/
theorem st_range {g : TG} {tb : TS} {ta : TA} {n : Int} (ha : PuA ta σ H [.int n]) (h1 : -(2 ^ 62) ≤ n) (h2 : n < 2 ^ 62) (Pv : Nat → St → Hp → Prop) (h0 : Pv 0 σ H)
    (hs : ∀ (i : Nat) σ H, i < n.toNat → Pv i σ H → g (.int (0 + i)) σ H fun σ2 H2 => tb { D with nx := Pv (i + 1), ct := Pv (i + 1), bk := rest D } σ2 H2) (hd : ∀ σ H, Pv n.toNat σ H → rest D σ H) :
    tSeq (tFor (iRng1 ta) g tb) rest D σ H :=
  ha _ ⟨n, rfl, h1, h2, for_range (D := { D with nx := rest D }) Pv h0 hs hd⟩
theorem st_rangeG {g : TG} {tb : TS} {ta : TA} {R : List V → Hp → Prop} (ha : GvA ta σ H R)
    (hr : ∀ vs H1, R vs H1 → ∃ n : Int, vs = [.int n] ∧ -(2 ^ 62) ≤ n ∧ n < 2 ^ 62 ∧ ∃ Pv : Nat → St → Hp → Prop, Pv 0 σ H1 ∧
    (∀ (i : Nat) σ H, i < n.toNat → Pv i σ H → g (.int (0 + i)) σ H fun σ2 H2 => tb { D with nx := Pv (i + 1), ct := Pv (i + 1), bk := rest D } σ2 H2) ∧ (∀ σ H, Pv n.toNat σ H → rest D σ H)) :
    tSeq (tFor (iRng1 ta) g tb) rest D σ H :=
  ha _ fun vs H1 r => by
    obtain ⟨n, rfl, h1, h2, Pv, h0, hs, hd⟩ := hr vs H1 r
    exact ⟨n, rfl, h1, h2, for_range (D := { D with nx := rest D }) Pv h0 hs hd⟩
/-- for x in xs -/
theorem st_list {K : PySem.W.Frag} {g : TG} {tb : TS} {a : Addr} (ha : Pu te σ H (.ref a)) (Pv : Nat → St → Hp → Prop) (h0 : Pv 0 σ H) (hl : ∀ i σ H, i ≤ xs.length → Pv i σ H → SqL K H a xs)
    (hs : ∀ (i : Nat) x σ H, xs[i]? = some x → Pv i σ H → g x σ H fun σ2 H2 => tb { D with nx := Pv (i + 1), ct := Pv (i + 1), bk := rest D } σ2 H2) (hd : ∀ σ H, Pv xs.length σ H → rest D σ H) :
    tSeq (tFor (iList K te) g tb) rest D σ H :=
  ha _ ⟨a, rfl, ⟨xs, hl 0 σ H (Nat.zero_le _) h0⟩, for_list (D := { D with nx := rest D }) Pv h0 hl hs hd⟩
end
theorem kit_int_bool {K : PySem.W.Frag} : PySem.W.kitOne K (.type "int") (.type "bool") = some false := by
  unfold PySem.W.kitOne
  rw [if_neg (by decide)]
  show (if PySem.W.kitMeta "bool" = true then (PySem.fastBuiltinMro "int").map (·.contains (Value.type "bool")) else none) = some false
  decide +kernel
/-- a tuple of ints that is tracked -/
def TupT (H : Hp) (v : V) (ns : List Int) : Prop := ∃ a, v = .ref a ∧ H a = some (.tup (ns.map V.int))
theorem TupT.i {K : PySem.W.Frag} {H : Hp} {v : V} {ns : List Int} (h : TupT H v ns) : TupI K H v ns := by
  obtain ⟨a, rfl, h⟩ := h
  exact ⟨a, rfl, SqT.of h⟩
theorem TupT.same {H H' : Hp} {v : V} {ns : List Int} (h : TupT H v ns) (e : Same H H') : TupT H' v ns := by
  obtain ⟨a, rfl, h⟩ := h
  exact ⟨a, rfl, e _ _ h⟩
theorem TupT.sameB {H H' : Hp} {l : Addr} {ys : List V} {v : V} {ns : List Int} (h : TupT H v ns) (e : SameB l H H') (hl : H l = some (.lst ys)) : TupT H' v ns := by
  obtain ⟨a, rfl, h⟩ := h
  exact ⟨a, rfl, e _ _ h (ne_of h hl (by intro z; cases z))⟩
theorem TupT.of {H : Hp} {a : Addr} {ns : List Int} (h : H a = some (.tup (ns.map V.int))) : TupT H (.ref a) ns := ⟨a, rfl, h⟩
theorem Bd.small {i : Int} {n : Nat} (h : i.natAbs < 2 ^ 64 := by decide) (e : 64 ≤ n := by decide) : Bd n i := Bd.mono (m := 64) h e
/-! ### no cell in a block -/
/-! ### the greatest common divisor -/
theorem gcd_step {x y : Int} (h1 : 0 ≤ x) (h2 : 0 ≤ y) : Int.gcd y (x.fmod y) = Int.gcd x y := by
  rw [Int.fmod_eq_emod_of_nonneg _ h2]
  obtain ⟨m, rfl⟩ := Int.eq_ofNat_of_zero_le h1
  obtain ⟨n, rfl⟩ := Int.eq_ofNat_of_zero_le h2
  rw [← Int.natCast_emod]
  show Nat.gcd n (m % n) = Nat.gcd m n
  rw [Nat.gcd_comm, ← Nat.gcd_rec, Nat.gcd_comm]
theorem fmod_lt {x y : Int} (h2 : 0 < y) : 0 ≤ x.fmod y ∧ x.fmod y < y := by
  rw [Int.fmod_eq_emod_of_nonneg _ (Int.le_of_lt h2)]
  exact ⟨Int.emod_nonneg _ (by omega), Int.emod_lt_of_pos _ h2⟩
theorem gcd_zero (x : Int) (h : 0 ≤ x) : ((Int.gcd x 0 : Nat) : Int) = x := by
  rw [Int.gcd_zero_right]; omega
theorem gcd_pos {a b : Int} (h : b ≠ 0) : 0 < Int.gcd a b := Int.gcd_pos_of_ne_zero_right a h
theorem Bd.gcd_right {n : Nat} {a b : Int} (hb : b ≠ 0) (h : Bd n b) : Bd n (Int.gcd a b : Int) := by
  refine h.le ?_
  exact Nat.le_of_dvd (by omega) (Int.gcd_dvd_natAbs_right a b)
theorem gS_ne {a b : Int} (h : b ≠ 0) : gS a b ≠ 0 := by
  have := gcd_pos (a := a) h
  unfold gS; split <;> omega
theorem gS_bd {n : Nat} {a b : Int} (h : b ≠ 0) (hb : Bd n b) : Bd n (gS a b) := by
  have := Bd.gcd_right (a := a) h hb
  unfold gS; split
  · exact this.neg
  · exact this
/-! ### more statements -/
section
variable {σ : St} {H : Hp} {D : Ends} {rest : TS} {te : TE} {b : Bool} {k : Nat} {v0 : V}
theorem st_ifN {tc : TT} {t : TS} (h : PuT tc σ H b) (q1 : b = true → t { D with nx := rest D } σ H) (q2 : b = false → rest D σ H) : tSeq (tIfS tc t tNext) rest D σ H := st_if h q1 q2
theorem st_ifNG {tc : TT} {t : TS} {R : Bool → Hp → Prop} (h : GvT tc σ H R) (q1 : ∀ H', R true H' → t { D with nx := rest D } σ H') (q2 : ∀ H', R false H' → rest D σ H') : tSeq (tIfS tc t tNext) rest D σ H := st_ifG h q1 q2
theorem st_ifN1 {tc : TT} {t : TS} (h : PuT tc σ H b) (q1 : b = true → t D σ H) (q2 : b = false → D.nx σ H) : tIfS tc t tNext D σ H := st_if1 h q1 q2
theorem st_ifNG1 {tc : TT} {t : TS} {R : Bool → Hp → Prop} (h : GvT tc σ H R) (q1 : ∀ H', R true H' → t D σ H') (q2 : ∀ H', R false H' → D.nx σ H') : tIfS tc t tNext D σ H := st_ifG1 h q1 q2
theorem st_ifSet {tc : TT} {R : V → Hp → Prop} (hc : PuT tc σ H b) (he : b = true → Gv te σ H R) (h0 : σ.set k (some v0) = σ) (r0 : b = false → R v0 H) (q : ∀ v H', R v H' → rest D (σ.set k (some v)) H') :
    tSeq (tIfS tc (tAsg te (gName k)) tNext) rest D σ H := by
  refine st_if hc (fun e => st_setG1 (he e) q) fun e => ?_
  have := q v0 H (r0 e)
  rw [h0] at this
  exact this
end
section
variable {σ : St} {H : Hp} {D : Ends} {rest : TS} {te to : TE} {l : Addr} {xs : List V} {K : PySem.W.Frag}
theorem st_app1 {R : V → Hp → Prop} (ho : Pu to σ H (.ref l)) (hl : H l = some (.lst xs)) (he : Gv te σ H R) (q : ∀ v H', R v H' → ∃ ys, H' l = some (.lst ys) ∧ ys.length < sizeLine ∧ D.nx σ (upd H' l (.lst (ys ++ [v])))) :
    tDrop (tBM K "list" rAppend to (tCons te tNil)) D σ H :=
  ho _ ⟨.inl ⟨rfl, _, SqL.of hl⟩, he _ fun v H' r => by
    obtain ⟨ys, h1, h2, h3⟩ := q v H' r
    exact ⟨l, ys, v, rfl, rfl, h1, h2, h3⟩⟩
end
/-! ### comprehensions by what they give -/
section
variable {σ : St} {H : Hp} {te tl : TE} {fr : St → St} {k : Nat} {K : PySem.W.Frag}
/-- over a range, by what holds between two turns -/
theorem gv_compR {ta : TA} {n : Int} (Pv : Addr → Nat → List V → Hp → Prop) (ha : PuA ta σ H [.int n]) (h1 : -(2 ^ 62) ≤ n) (h2 : n < 2 ^ 62) (hk : ∀ x, KeepS (fr σ) ((fr σ).set k (some x)))
    (h0 : ∀ D, H D = none → Pv D 0 [] (upd H D (.lst [])))
    (hs : ∀ D (i : Nat) ys H', H D = none → i < n.toNat → Pv D i ys H' → ys.length < sizeLine ∧ Gv te ((fr σ).set k (some (.int (0 + i)))) H' (fun y H4 => H4 D = some (.lst ys) ∧ Pv D (i + 1) (ys ++ [y]) (upd H4 D (.lst (ys ++ [y]))))) :
    Gv (tComp (iRng1 ta) fr (gName k) te) σ H (fun v H' => ∃ D ys, H D = none ∧ v = .ref D ∧ Pv D n.toNat ys H') := by
  intro Q g
  refine ha _ ⟨n, rfl, h1, h2, fun D hD => ?_⟩
  refine ⟨fun i m ys H' => m = n.toNat - i ∧ i ≤ n.toNat ∧ Pv D i ys H', ⟨_, rfl, Nat.zero_le _, h0 D hD⟩, ?_⟩
  rintro i m ys H' ⟨rfl, hi, p⟩
  by_cases hlt : i < n.toNat
  · obtain ⟨z1, z2⟩ := hs D i ys H' hD hlt p
    refine .inr ⟨hlt, z1, fun x H3 y => ?_⟩
    obtain ⟨e, y⟩ := y
    subst e y
    exact ⟨hk _, z2 _ fun v H4 r => ⟨r.1, n.toNat - (i + 1), by omega, rfl, hlt, r.2⟩⟩
  · have e : i = n.toNat := by omega
    subst e
    exact .inl ⟨Nat.le_refl _, g _ _ ⟨D, ys, hD, rfl, p⟩⟩
end
/-! ### tuples in lists -/
def TupsT (H : Hp) (vs : List V) (nss : List (List Int)) : Prop := Paired (TupT H) vs nss
theorem TupsT.i {K : PySem.W.Frag} {H : Hp} {vs : List V} {nss : List (List Int)} (h : TupsT H vs nss) : Paired (TupI K H) vs nss := Paired.mapP h fun _ _ x => x.i
theorem TupsT.snoc {H : Hp} {vs : List V} {nss : List (List Int)} {v : V} {ns : List Int} (h : TupsT H vs nss) (x : TupT H v ns) : TupsT H (vs ++ [v]) (nss ++ [ns]) := Paired.snoc h x
theorem TupT.upd {H : Hp} {l : Addr} {ys zs : List V} {v : V} {ns : List Int} (h : TupT H v ns) (hl : H l = some (.lst ys)) : TupT (upd H l (.lst zs)) v ns := h.sameB SameB.upd hl
section
variable {σ : St} {H : Hp} {ta tb : TE} {K : PySem.W.Frag} {a b : Addr} {vs ws : List V} {ns ms : List (List Int)}
theorem pu_neL (ha : Pu ta σ H (.ref a)) (hb : Pu tb σ H (.ref b)) (h1 : SqL K H a vs) (h2 : SqL K H b ws) (p1 : TupsT H vs ns) (p2 : TupsT H ws ms) : Pu (tOp (rEqLTI K true) ta tb) σ H (.bl (!decide (ns = ms))) :=
  fun _ q => ha _ (hb _ ⟨a, b, vs, ws, ns, ms, rfl, rfl, h1, h2, p1.i, p2.i, q⟩)
end
/-! ### the hand of a law -/
def HandAt (H : Hp) (hd sc : Addr) : Prop := ∃ (ns : List Int) (i b c p q : Int), H hd = some (.lst [.ref sc, .int i, .int b, .int c, .int p, .int q]) ∧ H sc = some (.lst (ns.map V.int)) ∧ 0 ≤ i
theorem HandAt.ne {H : Hp} {hd sc : Addr} {ns : List Int} {i b c p q : Int} (h1 : H hd = some (.lst [.ref sc, .int i, .int b, .int c, .int p, .int q])) (h2 : H sc = some (.lst (ns.map V.int))) : sc ≠ hd := by
  intro e
  subst e
  rw [h1] at h2
  cases ns with
  | nil => simp at h2
  | cons n r => simp at h2
theorem HandAt.same {H H' : Hp} {hd sc : Addr} (h : HandAt H hd sc) (e : Same H H') : HandAt H' hd sc := by
  obtain ⟨ns, i, b, c, p, q, h1, h2, h0⟩ := h
  exact ⟨ns, i, b, c, p, q, e _ _ h1, e _ _ h2, h0⟩
theorem HandAt.ls {H : Hp} {hd sc : Addr} (h : HandAt H hd sc) : ∃ ys, H hd = some (.lst ys) := by
  obtain ⟨ns, i, b, c, p, q, h1, _⟩ := h
  exact ⟨_, h1⟩
theorem HandAt.fresh {H : Hp} {hd sc l : Addr} (h : HandAt H hd sc) (hl : H l = none) : l ≠ hd ∧ l ≠ sc := by
  obtain ⟨ns, i, b, c, p, q, h1, h2, _⟩ := h
  exact ⟨Ne.symm (ne_of_none h1 hl), Ne.symm (ne_of_none h2 hl)⟩
theorem HandAt.upd {H : Hp} {hd sc l : Addr} {o : HO} (h : HandAt H hd sc) (n : l ≠ hd ∧ l ≠ sc) : HandAt (upd H l o) hd sc := by
  obtain ⟨ns, i, b, c, p, q, h1, h2, h0⟩ := h
  exact ⟨ns, i, b, c, p, q, by rw [upd_ne (Ne.symm n.1)]; exact h1, by rw [upd_ne (Ne.symm n.2)]; exact h2, h0⟩
end L2

set_option linter.all false
set_option maxRecDepth 100000
set_option maxHeartbeats 4000000
namespace L2
open PySem PySem.Spec PyProof.Rows
/-- a point laid as a tuple; how long its numbers are -/
def AtP (H : Hp) (v : V) (p : Pt3) : Prop := TupT H v [p.x, p.y, p.z]
structure Sz (n : Nat) (p : Pt3) : Prop where
  x : Bd n p.x
  y : Bd n p.y
  z : Bd n p.z
theorem Sz.mono {m n : Nat} {p : Pt3} (h : Sz m p) (e : m ≤ n) : Sz n p := ⟨h.x.mono e, h.y.mono e, h.z.mono e⟩
theorem Sz.is3 {n : Nat} {A B C : Int} {r : Pt3} (h : Is3 A B C r) (a : Bd n A) (b : Bd n B) (c : Bd n C) : Sz n r := ⟨a.le h.le.1, b.le h.le.2.1, c.le h.le.2.2⟩
/-! ### sums of fractions -/
/-! ### a comprehension that catches one name -/
theorem lookup_one {y y' : Str} {c c' : Addr} (h : List.lookup y' [(y, c)] = some c') : y' = y ∧ c' = c := by
  rw [List.lookup_cons] at h
  split at h
  · rename_i e
    exact ⟨eq_of_beq e, (Option.some.inj h).symm⟩
  · cases h
theorem lookup_mem {names : List (Str × NameKind)} {y : Str} {k : NameKind} (e : names.lookup y = some k) : (y, k) ∈ names := by
  induction names with
  | nil => cases e
  | cons p r ih =>
    rw [List.lookup_cons] at e
    split at e
    · rename_i h
      have h' : y = p.1 := eq_of_beq h
      have e' : p.2 = k := Option.some.inj e
      rw [h', ← e']
      exact List.mem_cons_self
    · exact List.mem_cons_of_mem _ (ih e)
theorem ix_tupK {X : Cx} {K : PySem.W.Frag} (h : X.K = K) : IxR X (rIxT K) := by
  subst h; exact ix_tup
/-! ### lists of points -/
end L2

set_option linter.all false
namespace L2
/-! ### what two sides share -/
theorem Pt3.ext' {p q : Pt3} (h1 : p.x = q.x) (h2 : p.y = q.y) (h3 : p.z = q.z) : p = q := by
  cases p; cases q; simp only at h1 h2 h3; subst h1 h2 h3; rfl
structure Lp (p : Pt3) : Prop where
  pos : 0 < p.z
  cop : Int.gcd (Int.gcd p.z p.x) p.y = 1
theorem Lp.eq {p q : Pt3} (hp : Lp p) (hq : Lp q) (h : ¬ Apart p q) : p = q := by
  obtain ⟨h1, h2, h3⟩ := uniq3 hp.pos hq.pos hp.cop hq.cop h
  exact Pt3.ext' h1 h2 h3
def gS3 (a b c : Int) : Int := if c < 0 then -(Int.gcd (Int.gcd a b) c : Int) else (Int.gcd (Int.gcd a b) c : Int)
def pbF (a b c : Int) : Pt3 := ⟨a.fdiv (gS3 a b c), b.fdiv (gS3 a b c), c.fdiv (gS3 a b c)⟩
theorem gS3_ne {a b c : Int} (h : c ≠ 0) : gS3 a b c ≠ 0 := by
  have := Int.gcd_pos_of_ne_zero_right ((Int.gcd a b : Nat) : Int) h
  unfold gS3; split <;> omega
theorem gcd3_rot (x y z : Int) : Int.gcd ((Int.gcd x y : Nat) : Int) z = Int.gcd ((Int.gcd z x : Nat) : Int) y := by
  rw [Int.gcd_comm, ← Int.gcd_assoc]
theorem pb_has {a b c : Int} (h : c ≠ 0) : Lp (pbF a b c) ∧ ∃ k, k ≠ 0 ∧ a = k * (pbF a b c).x ∧ b = k * (pbF a b c).y ∧ c = k * (pbF a b c).z := by
  have hg := gS3_ne (a := a) (b := b) h
  have hp := Int.gcd_pos_of_ne_zero_right ((Int.gcd a b : Nat) : Int) h
  have key : ∀ z, ((Int.gcd ((Int.gcd a b : Nat) : Int) c : Nat) : Int) ∣ z → z = gS3 a b c * z.fdiv (gS3 a b c) := by
    intro z hz
    have : gS3 a b c ∣ z := by
      unfold gS3; split
      · exact Int.neg_dvd.mpr hz
      · exact hz
    obtain ⟨w, hw⟩ := this
    have e : z.fdiv (gS3 a b c) = w := by
      conv => lhs; arg 1; rw [hw]
      exact fdiv_mul_self hg
    rw [e]; exact hw
  have dg : ((Int.gcd ((Int.gcd a b : Nat) : Int) c : Nat) : Int) ∣ ((Int.gcd a b : Nat) : Int) := Int.gcd_dvd_left _ _
  have ea := key a (Int.dvd_trans dg (Int.gcd_dvd_left a b))
  have eb := key b (Int.dvd_trans dg (Int.gcd_dvd_right a b))
  have ec := key c (Int.gcd_dvd_right _ _)
  refine ⟨⟨?_, ?_⟩, gS3 a b c, hg, ea, eb, ec⟩
  · show 0 < c.fdiv (gS3 a b c)
    by_cases hc : c < 0
    · have hG : gS3 a b c < 0 := by unfold gS3; rw [if_pos hc]; omega
      by_cases h2 : 0 < c.fdiv (gS3 a b c)
      · exact h2
      · have := Int.mul_nonneg_of_nonpos_of_nonpos (a := gS3 a b c) (b := c.fdiv (gS3 a b c)) (by omega) (by omega)
        omega
    · have hG : 0 < gS3 a b c := by unfold gS3; rw [if_neg hc]; omega
      by_cases h2 : 0 < c.fdiv (gS3 a b c)
      · exact h2
      · have := Int.mul_nonpos_of_nonneg_of_nonpos (a := gS3 a b c) (b := c.fdiv (gS3 a b c)) (by omega) (by omega)
        omega
  · show Int.gcd ((Int.gcd (c.fdiv (gS3 a b c)) (a.fdiv (gS3 a b c)) : Nat) : Int) (b.fdiv (gS3 a b c)) = 1
    rw [← gcd3_rot]
    generalize hx : a.fdiv (gS3 a b c) = x at *
    generalize hy : b.fdiv (gS3 a b c) = y at *
    generalize hz : c.fdiv (gS3 a b c) = z at *
    have hab : (gS3 a b c).natAbs = Int.gcd ((Int.gcd a b : Nat) : Int) c := by unfold gS3; split <;> omega
    generalize gS3 a b c = G at *
    have h1 : Int.gcd a b = G.natAbs * Int.gcd x y := by
      conv => lhs; rw [ea, eb]
      exact Int.gcd_mul_left G x y
    have h2 : Int.gcd ((Int.gcd a b : Nat) : Int) c = G.natAbs * Int.gcd ((Int.gcd x y : Nat) : Int) z := by
      have e1 : Int.gcd ((Int.gcd a b : Nat) : Int) c = Int.gcd (G * ((Int.gcd x y : Nat) : Int)) (G * z) := by
        rw [← ec]
        unfold Int.gcd
        rw [Int.natAbs_mul, Int.natAbs_natCast, Int.natAbs_natCast]
        congr 1
      rw [e1, Int.gcd_mul_left]
    rw [← hab] at h2
    have h5 : G.natAbs * 1 = G.natAbs * Int.gcd ((Int.gcd x y : Nat) : Int) z := by rw [Nat.mul_one]; exact h2
    exact (Nat.eq_of_mul_eq_mul_left (by omega) h5).symm
/-! ### the order of points -/
/-! ### on one line -/
end L2

set_option linter.all false
set_option maxRecDepth 100000
set_option maxHeartbeats 4000000
namespace L2
open PySem PySem.Spec PyProof.Rows
/-! ### tuples of points -/
section
variable {σ : St} {H : Hp} {ta tb te : TE} {K : PySem.W.Frag} {x y : V} {b : Bool} {D : Ends} {rest : TS}
theorem gv_ifE {tc : TT} {R : V → Hp → Prop} (h : PuT tc σ H b) (h1 : b = true → Gv ta σ H R) (h2 : b = false → Gv tb σ H R) : Gv (tIf tc ta tb) σ H R := fun Q q => h _ (by
  cases b with
  | true => rw [if_pos rfl]; exact h1 rfl Q q
  | false => rw [if_neg Bool.false_ne_true]; exact h2 rfl Q q)
theorem st_tupl {g : TG} {tb : TS} {a : Addr} {xs : List V} (ha : Pu te σ H (.ref a)) (Pv : Nat → St → Hp → Prop) (h0 : Pv 0 σ H) (hl : ∀ i σ H, i ≤ xs.length → Pv i σ H → SqT K H a xs)
    (hs : ∀ (i : Nat) x σ H, xs[i]? = some x → Pv i σ H → g x σ H fun σ2 H2 => tb { D with nx := Pv (i + 1), ct := Pv (i + 1), bk := rest D } σ2 H2) (hd : ∀ σ H, Pv xs.length σ H → rest D σ H) :
    tSeq (tFor (iTup K te) g tb) rest D σ H :=
  ha _ ⟨a, rfl, ⟨xs, hl 0 σ H (Nat.zero_le _) h0⟩, for_tup (D := { D with nx := rest D }) Pv h0 hl hs hd⟩
end
section
variable {σ : St} {H : Hp} {t : TA} {RA : List V → Hp → Prop} {R : V → Hp → Prop}
theorem gv_tupA (h : GvA t σ H RA) (f : ∀ vs H1, RA vs H1 → vs.length ≤ sizeLine ∧ ∀ p, H1 p = none → R (.ref p) (upd H1 p (.tup vs))) : Gv (tTup t) σ H R := fun Q q => h _ fun vs H1 r => ⟨(f vs H1 r).1, fun p hp => q _ _ ((f vs H1 r).2 p hp)⟩
theorem gv_lstA (h : GvA t σ H RA) (f : ∀ vs H1, RA vs H1 → vs.length ≤ sizeLine ∧ ∀ p, H1 p = none → R (.ref p) (upd H1 p (.lst vs))) : Gv (tLst t) σ H R := fun Q q => h _ fun vs H1 r => ⟨(f vs H1 r).1, fun p hp => q _ _ ((f vs H1 r).2 p hp)⟩
end
theorem pu_cast {t : TE} {σ : St} {H : Hp} {v w : V} (h : Pu t σ H v) (e : v = w) : Pu t σ H w := by rw [← e]; exact h
theorem GvT.imp {t : TT} {σ : St} {H : Hp} {R R' : Bool → Hp → Prop} (h : GvT t σ H R) (f : ∀ v H', R v H' → R' v H') : GvT t σ H R' := fun Q q => h Q fun v H' r => q v H' (f v H' r)
/-! ### sizes of what is told -/
end L2

set_option linter.all false
namespace L2
/-! ### just what is shared -/
def touchB (a b c d : Pt3) : Bool :=
  if (onB a c d || (onB b c d || (onB c a b || onB d a b))) = true then true
  else if 0 ≤ sgn (det a b c) * sgn (det a b d) then false else decide (sgn (det c d a) * sgn (det c d b) < 0)
theorem sgn_cases (x : Int) : (sgn x = 1 ∧ 0 < x) ∨ (sgn x = -1 ∧ x < 0) ∨ (sgn x = 0 ∧ x = 0) := by
  unfold sgn
  by_cases h1 : 0 < x
  · rw [if_pos h1]; exact .inl ⟨rfl, h1⟩
  · rw [if_neg h1]
    by_cases h2 : x < 0
    · rw [if_pos h2]; exact .inr (.inl ⟨rfl, h2⟩)
    · rw [if_neg h2]; exact .inr (.inr ⟨rfl, by omega⟩)
end L2

set_option linter.all false
set_option maxRecDepth 100000
set_option maxHeartbeats 4000000
namespace L2
open PySem PySem.Spec PyProof.Rows
/-! ### zip -/
/-! ### the invariant behind a turn of several objects -/
/-! ### zip walked -/
/-! ### zip made -/
end L2

set_option linter.all false
set_option maxRecDepth 100000
set_option maxHeartbeats 4000000
namespace L2
open PySem PySem.Spec PyProof.Rows
/-! ### how far a point lies, how long its bottom is -/
/-! ### more readings -/
section
variable {σ : St} {H : Hp} {D : Ends}
theorem st_range1 {g : TG} {tb : TS} {ta : TA} {n : Int} (ha : PuA ta σ H [.int n]) (h1 : -(2 ^ 62) ≤ n) (h2 : n < 2 ^ 62) (Pv : Nat → St → Hp → Prop) (h0 : Pv 0 σ H)
    (hs : ∀ (i : Nat) σ H, i < n.toNat → Pv i σ H → g (.int (0 + i)) σ H fun σ2 H2 => tb { D with nx := Pv (i + 1), ct := Pv (i + 1), bk := D.nx } σ2 H2) (hd : ∀ σ H, Pv n.toNat σ H → D.nx σ H) :
    tFor (iRng1 ta) g tb D σ H := ha _ ⟨n, rfl, h1, h2, for_range (D := D) Pv h0 hs hd⟩
end
/-! ### lists of sides -/
end L2

set_option linter.all false
namespace L2
/-! ### one place, one tuple -/
theorem one_place {p r : Pt3} {k d a b c : Int} (lp : Lp p) (lr : Lp r) (hk : k ≠ 0) (hd : d ≠ 0) (a1 : a = k * p.x) (b1 : b = k * p.y) (c1 : c = k * p.z) (a2 : a = d * r.x) (b2 : b = d * r.y) (c2 : c = d * r.z) : p = r := by
  refine lp.eq lr fun ap => ap ⟨?_, ?_⟩
  · have : (k * d) * (p.x * r.z) = (k * d) * (r.x * p.z) := by
      have h1 : (k * d) * (p.x * r.z) = (k * p.x) * (d * r.z) := by grind
      have h2 : (k * d) * (r.x * p.z) = (d * r.x) * (k * p.z) := by grind
      rw [h1, h2, ← a1, ← c1, ← a2, ← c2]
    exact Int.eq_of_mul_eq_mul_left (Int.mul_ne_zero hk hd) this
  · have : (k * d) * (p.y * r.z) = (k * d) * (r.y * p.z) := by
      have h1 : (k * d) * (p.y * r.z) = (k * p.y) * (d * r.z) := by grind
      have h2 : (k * d) * (r.y * p.z) = (d * r.y) * (k * p.z) := by grind
      rw [h1, h2, ← b1, ← c1, ← b2, ← c2]
    exact Int.eq_of_mul_eq_mul_left (Int.mul_ne_zero hk hd) this
theorem pb_is3 {a b c : Int} {r : Pt3} (hc : c ≠ 0) (h : Is3 a b c r) : pbF a b c = r := by
  obtain ⟨lp, k, hk, e1, e2, e3⟩ := pb_has (a := a) (b := b) hc
  obtain ⟨d, hd, f1, f2, f3⟩ := h.ex
  exact one_place lp ⟨h.pos, h.cop⟩ hk (by omega) e1 e2 e3 f1 f2 f3
end L2

set_option linter.all false
namespace L2
end L2

set_option linter.all false
set_option maxRecDepth 100000
set_option maxHeartbeats 4000000
namespace L2
open PySem PySem.Spec PyProof.Rows
/-! ### exceptions: how one lies behind a call -/
/-! ### own classes of exceptions: each straight under one that is straight under ValueError -/
/-! ### raise -/
/-! ### a def that may raise -/
/-! ### try: name = f(..) except C as n -/
/-! ### isinstance of an exception -/
section
open PySem.W PySem.Calls Builtin Builtin.ObjectAttr Builtin.Getset_descriptor
variable {K : PySem.W.Frag} {x C : Addr}
end
end L2

set_option linter.all false
set_option maxRecDepth 100000
set_option maxHeartbeats 4000000
namespace L2
open PySem PySem.Spec PyProof.Rows
/-! ### dict(a list of pairs), the keys tuples -/
end L2

set_option linter.all false
set_option maxRecDepth 100000
set_option maxHeartbeats 4000000
namespace L2
open PySem PySem.Spec PyProof.Rows
end L2

set_option linter.all false
set_option maxRecDepth 100000
set_option maxHeartbeats 4000000
namespace L2
open PySem PySem.Spec PyProof.Rows
end L2

set_option linter.all false
set_option maxRecDepth 100000
set_option maxHeartbeats 4000000
namespace L2
open PySem PySem.Spec PyProof.Rows
section
variable {prog : Program} {w : World} {A : Around} {E : Value → Shared → Prop} {s : Shared}
/-- a dict by its entries -/
def DictE (h : Heap) (d : Addr) (es : Array DictEntry) (ep : Nat) : Prop := ∃ o, h.get? d = some o ∧ o.ExactDict ∧ o.data = .dict es ep
theorem DictE.ty {d : Addr} {es : Array DictEntry} {ep : Nat} (x : DictE s.heap d es ep) : s.TypeIs (.ref d) "dict" := let ⟨o, e, c, _⟩ := x; ⟨o, e, c.1⟩
theorem ke_iter {d : Addr} {es : Array DictEntry} {ep : Nat} {Q : Value → Shared → Prop} (hs : (d == sysModules) = false) (x : DictE s.heap d es ep)
    (q : Q (.ref s.heap.objs.size) { s with heap := s.heap.push { cls := .type "dict_keyiterator", data := .fields #[.ref d, .int 0 0, .int es.size 0, .int ep 0] } }) : wpAny (model prog w) A (pyIter (.ref d)) Q E s := by
  have ty := x.ty
  obtain ⟨u, hu, uc, ud⟩ := x
  refine wpAny_pyIter_slot ty F.slot_dict_iter (wpAny_call_entry F.slot_dict_iter ty F.entry_dict_iter ?_ (F.args_dict_iter_1 _))
  unfold Builtin.«dict.__iter__»
  refine wpAny_bind ?_
  unfold Builtin.Dict.dictSlotNone
  refine wpAny_bind (wpAny_notOrdered_dict ty (show wpAny _ _ (pure (Value.ref d)) _ _ s from wpAny_pure ?_))
  refine (show wpAny _ _ (Builtin.Dict.showsAll d >>= _) _ _ s from wpAny_bind ?_)
  unfold Builtin.Dict.showsAll
  rw [if_neg (c := (d == sysModules) = true) (by rw [hs]; decide)]
  refine wpAny_pure (wpAny_bind (wpAny_dictEntries hu ud (wpAny_bind (wpAny_dictEpoch hu ud (wpAny_bind (wpAny_newObj_type (wpAny_pure ⟨_, rfl, "dict_keyiterator", _, ⟨_, Heap.get?_push_size _ rfl, rfl⟩, F.slot_dict_keyiterator_next.lookup, ?_⟩)))))))
  simpa [rawInt] using q
theorem ke_item {j d : Addr} {i ep : Nat} {es : Array DictEntry} {Q : Option Value → Shared → Prop} (st : s.heap.IsKeyIter j d i es.size ep) (x : DictE s.heap d es ep) (hi : i < es.size)
    (q : ∀ h', h'.IsKeyIter j d (i + 1) es.size ep → Heap.SameBut j s.heap h' → Q (some es[i].key) { s with heap := h' }) : wpAny (model prog w) A (pyNext (.ref j)) Q E s := by
  obtain ⟨v, hv, vc, vd⟩ := id st
  obtain ⟨u, hu, uc, ud⟩ := x
  unfold pyNext
  refine wpAny_bind (wpAny_attempt (wpAny_callSpecial?_slot (name := Str.ofString "__next__") st.typeIs F.slot_dict_keyiterator_next (wpAny_call_entry F.slot_dict_keyiterator_next st.typeIs F.entry_dict_keyiterator_next ?_ (F.args_dict_keyiterator_next_1 _))))
  refine wpAny_bind (wpAny_pure (wpAny_bind (wpAny_bind ?_)))
  first | refine wpAny_bind (wpAny_typeNameOfWhole_keyiter st.typeIs (wpAny_pure ?_)) | refine wpAny_bind (wpAny_typeNameOf_keyiter st.typeIs (wpAny_pure ?_))
  refine wpAny_bind (wpAny_fieldsOf hv vd ?_)
  have own : Builtin.Dict_items.ownsTuple "dict_keyiterator" = false := by decide
  simp only [own, Bool.false_eq_true, if_false]
  refine (show wpAny _ _ (ite ((Value.ref d == Value.none) = true) _ _) _ _ s from ?_)
  rw [if_neg (c := (Value.ref d == Value.none) = true) (by exact Bool.false_ne_true)]
  refine wpAny_bind (wpAny_pure (wpAny_bind (wpAny_dictEntries hu ud ?_)))
  rw [if_neg (by simp)]
  refine wpAny_bind (wpAny_pure (wpAny_bind (wpAny_dictEpoch hu ud ?_)))
  rw [if_neg (by simp)]
  refine wpAny_pure ?_
  simp only [show ¬ ((i : Int) < 0) from by omega, if_false, Int.toNat_natCast, Array.getElem?_eq_getElem hi]
  refine wpAny_bind ?_
  first | refine wpAny_bind (wpAny_typeNameOfWhole_keyiter st.typeIs (wpAny_pure ?_)) | refine wpAny_bind (wpAny_typeNameOf_keyiter st.typeIs (wpAny_pure ?_))
  refine wpAny_bind (wpAny_isOneOf_keyiter st.typeIs (show wpAny _ _ (setField (.ref j) 1 (rawInt ((i : Int) + 1)) >>= _) _ _ s from wpAny_bind (wpAny_setField hv vd (by simp) ?_)))
  have st' : (s.heap.update j (Obj.mapFields (·.setIfInBounds 1 (rawInt ((i : Int) + 1))))).IsKeyIter j d (i + 1) es.size ep := by
    refine ⟨_, Heap.get?_update_self _ hv (Obj.isFreed_of_fields (Obj.data_mapFields vd _)), (Obj.cls_mapFields ..).trans vc, ?_⟩
    rw [Obj.data_mapFields vd]; simp [rawInt]
  refine wpAny_bind (wpAny_holding (wpAny_bind (wpAny_isOneOf_keyiter (s := { s with heap := s.heap.update j (Obj.mapFields (·.setIfInBounds 1 (rawInt ((i : Int) + 1)))) }) st'.typeIs ?_)))
  exact (show wpAny _ _ (pure es[i].key) _ _ _ from wpAny_pure (wpAny_pure ⟨_, rfl, wpAny_pure (q _ st' (Heap.SameBut.update ..))⟩))
theorem ke_end {j d : Addr} {i ep : Nat} {es : Array DictEntry} {Q : Option Value → Shared → Prop} (hd : A.handled = none) (st : s.heap.IsKeyIter j d i es.size ep) (x : DictE s.heap d es ep) (hi : es.size ≤ i)
    (q : ∀ h', Heap.ExtBut j s.heap h' → Q none { s with heap := h' }) : wpAny (model prog w) A (pyNext (.ref j)) Q E s := by
  obtain ⟨v, hv, vc, vd⟩ := id st
  obtain ⟨u, hu, uc, ud⟩ := x
  unfold pyNext
  refine wpAny_bind (wpAny_attempt (wpAny_callSpecial?_slot (name := Str.ofString "__next__") st.typeIs F.slot_dict_keyiterator_next (wpAny_call_entry F.slot_dict_keyiterator_next st.typeIs F.entry_dict_keyiterator_next ?_ (F.args_dict_keyiterator_next_1 _))))
  refine wpAny_bind (wpAny_pure (wpAny_bind (wpAny_bind ?_)))
  first | refine wpAny_bind (wpAny_typeNameOfWhole_keyiter st.typeIs (wpAny_pure ?_)) | refine wpAny_bind (wpAny_typeNameOf_keyiter st.typeIs (wpAny_pure ?_))
  refine wpAny_bind (wpAny_fieldsOf hv vd ?_)
  have own : Builtin.Dict_items.ownsTuple "dict_keyiterator" = false := by decide
  simp only [own, Bool.false_eq_true, if_false]
  refine (show wpAny _ _ (ite ((Value.ref d == Value.none) = true) _ _) _ _ s from ?_)
  rw [if_neg (c := (Value.ref d == Value.none) = true) (by exact Bool.false_ne_true)]
  refine wpAny_bind (wpAny_pure (wpAny_bind (wpAny_dictEntries hu ud ?_)))
  rw [if_neg (by simp)]
  refine wpAny_bind (wpAny_pure (wpAny_bind (wpAny_dictEpoch hu ud ?_)))
  rw [if_neg (by simp)]
  refine wpAny_pure ?_
  simp only [show ¬ ((i : Int) < 0) from by omega, if_false, Int.toNat_natCast, Array.getElem?_eq_none hi]
  refine wpAny_bind ?_
  first | refine wpAny_bind (wpAny_typeNameOfWhole_keyiter st.typeIs (wpAny_pure ?_)) | refine wpAny_bind (wpAny_typeNameOf_keyiter st.typeIs (wpAny_pure ?_))
  refine (show wpAny _ _ (setField (.ref j) 0 .none >>= _) _ _ s from wpAny_bind (wpAny_setField hv vd (by simp) ?_))
  refine wpAny_bind (m := newExc (.type "StopIteration") []) ?_
  simp only [newExc, newTuple]
  refine wpAny_bind (wpAny_newObj_type (wpAny_bind (m := firstArgMember _ _) (wpAny_of_eq (a := Value.none) (by first | rfl | (simp only [firstArgMember]; rfl)) (wpAny_newObj_type ?_ (by size_fits)))) (by size_fits))
  simp only [raiseNew]
  refine wpAny_bind (wpAny_handled ?_)
  first | rw [show A.in1.handled = none from hd] | rw [hd]
  refine wpAny_bind (wpAny_pure (wpAny_throw ?_))
  exact wpAny_bind (wpAny_isInstance (T := "StopIteration") (b := true) ⟨_, Heap.get?_push_size _ rfl, rfl⟩ isSubtype_stop (wpAny_pure (q _ (((Heap.SameBut.update ..).extBut.push _).push _))))
end
/-! ### the keys walked -/
end L2

set_option linter.all false
set_option maxRecDepth 100000
set_option maxHeartbeats 4000000
namespace L2
open PySem PySem.Spec PyProof.Rows
end L2

set_option linter.all false
set_option maxRecDepth 100000
set_option maxHeartbeats 4000000
namespace L2
open PySem PySem.Spec PyProof.Rows
section
variable {X : Cx} {e : Expr} {te : TE} {lo hi st : Option Expr} {tl th ts : TO} {pos p2 : Pos}
def tSl3 (r : V → Option Int → Option Int → Option Int → Hp → VK → Prop) (te : TE) (tl th ts : TO) : TE := fun σ H Q => te σ H fun x H1 => tl σ H1 fun l H2 => th σ H2 fun u H3 => ts σ H3 fun g H4 => r x l u g H4 Q
end
end L2

set_option linter.all false
set_option maxRecDepth 100000
set_option maxHeartbeats 4000000
namespace L2
open PySem PySem.Spec PyProof.Rows
end L2

set_option linter.all false
set_option maxRecDepth 100000
set_option maxHeartbeats 4000000
namespace L2
open PySem PySem.Spec PyProof.Rows PySem.W
section
variable {prog : Program} {w : World} {A : Around} {E : Value → Shared → Prop} {s : Shared}
theorem walks_keys (hh : A.handled = none) {j d : Addr} (hjd : j ≠ d) (es : Array DictEntry) (ep : Nat) :
    Walks prog w A j [j, d] [j] es.size (fun i v => ∃ x, es[i]? = some x ∧ v = x.key) (fun i h => h.IsKeyIter j d i es.size ep ∧ DictE h d es ep) where
  sub := fun b hb => by simp at hb; simp [hb]
  frame := fun _ _ _ st hk => by
    obtain ⟨s1, ⟨u, h2, r⟩⟩ := st
    exact ⟨s1.at fun o e => hk j (by simp) o e, ⟨u, hk d (by simp) u h2, r⟩⟩
  item := fun i s Q E hi st hQ => by
    obtain ⟨s1, ⟨u, h2, r⟩⟩ := st
    refine ke_item s1 ⟨u, h2, r⟩ hi fun h' st' sb => ?_
    exact hQ _ h' s.toks ⟨es[i], Array.getElem?_eq_getElem hi, rfl⟩ ⟨st', ⟨u, (sb.2 d (Ne.symm hjd)).trans h2, r⟩⟩ fun b o hb e => (sb.2 b (fun z => hb (by simp [z]))).trans e
  done := fun s Q E st hQ => ke_end hh st.1 st.2 (Nat.le_refl _) fun h' eb => hQ h' s.toks fun b o hb e => eb b o (fun z => hb (by simp [z])) e
  self := fun _ _ _ _ st hQ => wpAny_pyIter_keyiter st.1 hQ
/-- the keys, as a source of list(..) -/
theorem src_keys {d : Addr} {es : Array DictEntry} {ep : Nat} (hd : (d == sysModules) = false) : KdlSrc prog w "dict" d d es.size (fun i v => ∃ x, es[i]? = some x ∧ v = x.key) (fun h => DictE h d es ep) where
  type _ x := x.ty
  there _ x := let ⟨_, e, _⟩ := x; ⟨Heap.lt_size e, Heap.lt_size e⟩
  keep _ _ x k := let ⟨u, e, r⟩ := x; ⟨u, k d (.inl rfl) u e, r⟩
  notList := by decide
  notTuple := by decide
  hint _ _ _ _ x q := kdl_hint_dict x.ty q
  iter A s hh x := by
    obtain ⟨u, e, r⟩ := id x
    exact ⟨_, _, fun E Q q => ke_iter hd x q, walks_keys hh (Nat.ne_of_gt (Heap.lt_size e)) es ep, ⟨_, Heap.get?_push_size _ rfl, rfl, rfl⟩, u, Heap.get?_push_of_some _ e, r⟩
theorem call_list_keys {Q : Value → Shared → Prop} {d : Addr} {es : Array DictEntry} {ep : Nat} (hh : A.handled = none) (hd : (d == sysModules) = false) (x : DictE s.heap d es ep) (hlen : es.size ≤ sizeLine)
    (hQ : ∀ h' tk acc' c', (∀ b o, s.heap.get? b = some o → h'.get? b = some o) →
      h'.get? s.heap.objs.size = some { cls := .type "list", dict := none, data := .seq acc' c', slots := #[] } → ItemsOf (fun i v => ∃ x, es[i]? = some x ∧ v = x.key) acc' es.size → Q (.ref s.heap.objs.size) { s with heap := h', toks := tk }) :
    wpAny (model prog w) A (call (.type "list") [.ref d]) Q E s := kdl_call (src_keys hd) hh x hlen hQ
end
end L2

set_option linter.all false
set_option maxRecDepth 100000
set_option maxHeartbeats 4000000
namespace L2
open PySem PySem.Spec PyProof.Rows
theorem items_vals {ys : List V} {us : List Value} : ∀ {acc : List Value}, Vals ys us → acc.length = us.length → (∀ (j : Nat) v, acc[j]? = some v → us[j]? = some v) → Vals ys acc := by
  intro acc r hl h
  have e : acc = us := by
    refine List.ext_getElem? fun j => ?_
    cases h1 : acc[j]? with
    | some v => exact (h j v h1).symm
    | none =>
      have : us.length ≤ j := by rw [← hl]; exact List.getElem?_eq_none_iff.mp h1
      exact (List.getElem?_eq_none this).symm
  rw [e]
  exact r
end L2

set_option linter.all false
set_option maxRecDepth 100000
set_option maxHeartbeats 4000000
namespace L2
open PySem PySem.Spec PyProof.Rows
end L2

set_option linter.all false
set_option maxRecDepth 100000
set_option maxHeartbeats 4000000
namespace L2
open PySem PySem.Spec PyProof.Rows
end L2

set_option linter.all false
set_option maxRecDepth 100000
set_option maxHeartbeats 4000000
namespace L2
open PySem PySem.Spec PyProof.Rows
end L2

set_option linter.all false
set_option maxRecDepth 100000
set_option maxHeartbeats 4000000
namespace L2
open PySem PySem.Spec PyProof.Rows
end L2

set_option linter.all false
set_option maxRecDepth 100000
set_option maxHeartbeats 4000000
namespace L2
open PySem PySem.Spec PyProof.Rows
/-! ### rows of points, laid -/
end L2

set_option linter.all false
set_option maxRecDepth 100000
set_option maxHeartbeats 4000000
namespace L2
open PySem PySem.Spec PyProof.Rows
theorem same_none {H H' : Hp} {p : Addr} (s : Same H H') (h : H' p = none) : H p = none := by
  cases e : H p with
  | none => rfl
  | some o => rw [s _ _ e] at h; cases h
end L2

set_option linter.all false
set_option maxRecDepth 100000
set_option maxHeartbeats 4000000
namespace L2
open PySem PySem.Spec PyProof.Rows
section
variable {X : Cx}
/-- a comprehension's reading, whatever is done with its list at the end (a name may take it before the block is left) -/
def CompR (X : Cx) (e : Expr) (scope : Scope) (iter : Expr) (t : TE) : Prop := ∀ (pins : List (Addr × Obj)) (s : Shared) (σ : St) (H : Hp) (Q : VK) (use : Option (Value → Sem Unit)) (Q' : Value → Shared → Prop) (fpos : Pos), Inv X pins σ H s → t σ H Q →
  (∀ D C m s5 H4 r, s5.heap.Ns C m → FpOk X pins H4 C → Inv X pins σ H4 s5 → Q (.ref D) H4 → compPost (model X.prog X.w) X.A X.xe use Q' (.ref D) C (.ok r) s5) →
  wpAny (model X.prog X.w) X.A (comprehension e scope X.env fpos (newList []) false (eval iter X.env) use) Q' X.xe s
theorem cr_lcomp {tg elt iter : Expr} {scope : Scope} {cl : List (Str × Addr)} {pos : Pos} {N' : List Str} {wi : TI} {fr : St → St} {g : TG} {te : TE}
    (hc : X.calm = true) (hi : PI X tg iter wi)
    (hg : ∀ C fp s0 H0, PG (blk X N' scope cl C fp s0 H0) tg g) (he : ∀ C fp s0 H0, PE (blk X N' scope cl C fp s0 H0) elt te)
    (hclos : closureFor scope X.env = pure cl) (hkind : scope.kind = .function) (hnames : ∀ x ∈ scope.names, x.2 = .local → scope.names.lookup x.1 = some .local) (hcell : ∀ y ∈ scope.names, y.2 ≠ .cell)
    (hcl : ∀ y c, cl.lookup y = some c → X.env.cells.lookup y = some c) (hhas : ∀ y, ((relabel scope X.env).names.lookup y = some .cell ∨ (relabel scope X.env).names.lookup y = some .free) → ∃ c, cl.lookup y = some c)
    (hfl : ∀ σ : St, σ.length = X.N.length → (fr σ).length = N'.length)
    (hfr : ∀ (σ : St) (i : Nat) (y : Str) (v : V), N'[i]? = some y → (fr σ)[i]? = some (some v) → ∃ j : Nat, X.N[j]? = some y ∧ σ[j]? = some (some v) ∧ X.env.kindOf y = some .cell ∧ (relabel scope X.env).names.lookup y = some .cell)
    (hs : ∀ x, foldedSetIterable iter X.env x = pure x := by intro _; rfl) :
    CompR X (.ListComp elt [⟨tg, iter, [], 0⟩] scope pos) scope iter (tComp wi fr g te) := by
  intro pins s σ H Q use Q' fpos I h fin
  refine wpAny_comprehension_free (use := use) rfl hs hclos hkind hnames ?_
  refine thn (hi pins s σ H _ I h) fun v s1 h1 => thn h1 fun itv s2 h2 => ?_
  obtain ⟨it, fp, tn, J, H2, rfl, I2, T, st2, f2, q2⟩ := h2
  have D0 : H2 s2.heap.objs.size = none := I2.hok.fresh (Nat.le_refl _)
  obtain ⟨W, ⟨m0, w0⟩, turn⟩ := q2 _ D0
  refine wpAny_newObj_type (wpAny_newFunctionEnv hcell (by intro y hy; simp at hy) (fun h₁ hns₁ hsb₁ => ?_) hkind)
  dsimp only at hns₁ hsb₁ ⊢
  have I3 : Inv X pins σ (upd H2 s2.heap.objs.size (.lst [])) { s2 with heap := s2.heap.push { cls := .type "list", dict := none, data := .seq ([] : List Value).toArray } } :=
    I2.laid (t' := s2.toks) (fun b u e => Heap.get?_push_of_some _ e) (Nat.le_refl _) ⟨Nat.zero_le _, [], _, .nil, Heap.get?_push_size _ rfl⟩
  generalize hH3 : upd H2 s2.heap.objs.size (.lst []) = H3 at I3 w0
  generalize hs3 : ({ s2 with heap := s2.heap.push { cls := .type "list", dict := none, data := .seq ([] : List Value).toArray } } : Shared) = s3 at I3
  have eh : s3.heap = s2.heap.push { cls := .type "list", dict := none, data := .seq ([] : List Value).toArray } := by rw [← hs3]
  have fl : ∀ b ∈ fp, b < s2.heap.objs.size := fun b hb => by
    obtain ⟨o, e, _⟩ := T.obj 0 _ st2 b hb
    exact Heap.lt_size e
  have fn : ∀ b ∈ fp, H3 b = none := fun b hb => by
    rw [← hH3, upd_ne (Nat.ne_of_lt (fl b hb))]; exact (f2 b hb).1
  have f3 : ∀ b ∈ fp, FpOk X pins H3 b := fun b hb => ⟨fn b hb, (f2 b hb).2⟩
  have old : ∀ b u, s3.heap.get? b = some u → h₁.get? b = some u := fun b u e => by
    refine hsb₁.extBut b u ?_ (Heap.get?_push_of_some _ (by rw [← eh]; exact e))
    have := Heap.lt_size e
    rw [eh] at this
    exact Nat.ne_of_lt this
  have up : ∀ b u, s2.heap.get? b = some u → s3.heap.get? b = some u := fun b u e => by rw [eh]; exact Heap.get?_push_of_some _ e
  have ok := blk_ok (N' := N') (scope := scope) (cl := cl) (fp := fp) I3 hkind hcl hhas f3 fun b hb => by rw [eh, Heap.size_push]; exact Nat.lt_succ_of_lt (fl b hb)
  rw [← eh] at hns₁ ⊢
  have IB : Inv (blk X N' scope cl s3.heap.objs.size fp s3 H3) [] (fr σ) H3 { s3 with heap := h₁, toks := s2.toks + ([] : List (Str × Value)).length } := by
    refine ⟨ok, rfl, I3.bare, Un.kept old, ⟨_, hns₁, fun i y v e1 e2 e3 => ?_⟩, fun x c e => ?_, I3.hok.fresh (Nat.le_refl _), fun x c e => I3.freeC x c (hcl x c e), fun p hp => by simp [blk] at hp, I3.hok.kept old, hfl σ I3.len⟩
    · obtain ⟨j, n1, n2, n3, n4⟩ := hfr σ i y v e1 e2
      obtain ⟨m, _, hl⟩ := I3.loc
      obtain ⟨u, r, l⟩ := hl j y v n1 n2 (.inr (.inl n3))
      refine ⟨u, r, .inr ⟨.inl n4, ?_⟩⟩
      rcases l with ⟨k, _⟩ | ⟨_, c, e, ic⟩
      · rw [n3] at k; cases k
      · obtain ⟨c', e'⟩ := hhas y (.inl n4)
        have e'' := hcl y c' e'
        rw [e] at e''; cases e''
        obtain ⟨o, ho, hd⟩ := ic
        exact ⟨c, e', o, old c o ho, hd⟩
    · obtain ⟨v, o, ho, hd⟩ := I3.cell x c (hcl x c e)
      exact ⟨v, o, old c o ho, hd⟩
  have stB : tn 0 h₁ := T.keep _ _ _ st2 fun b hb o e => old b o (up b o e)
  have D2 : s2.heap.objs.size < s3.heap.objs.size := by rw [eh, Heap.size_push]; exact Nat.lt_succ_self _
  have stat : ∀ {H' : Hp}, (∀ b ∈ fp, H' b = none) → ∀ b ∈ fp, FpOk (blk X N' scope cl s3.heap.objs.size fp s3 H3) [] H' b := fun hn b hb =>
    ⟨hn b hb, Nat.ne_of_lt (Nat.lt_trans (fl b hb) D2), ok.exfs b hb, .inl hb, fun x c e => (ok.exf b hb).2 x c e, fun p hp => by simp [blk] at hp⟩
  have loop : codeAny (model X.prog X.w) X.A (.compLoop (.ListComp elt [⟨tg, iter, [], 0⟩] scope pos) 0 (.ref it) (.ref s2.heap.objs.size) (compEnvC scope cl s3.heap.objs.size X.env))
      (compPost (model X.prog X.w) X.A X.xe use Q' (.ref s2.heap.objs.size) s3.heap.objs.size) { s3 with heap := h₁, toks := s2.toks + ([] : List (Str × Value)).length } := by
    refine codeAny_loop rfl (fun n s' => ∃ i ys H', Inv (blk X N' scope cl s3.heap.objs.size fp s3 H3) [] (fr σ) H' s' ∧ tn i s'.heap ∧ (∀ b ∈ fp, H' b = none) ∧ W i n ys H') ?_ m0 ⟨0, [], H3, IB, stB, fn, w0⟩
    rintro n s4 ⟨i, ys, H4, I4, st4, fr4, w4⟩
    show wpAny _ _ ((compTurn (.ListComp elt [⟨tg, iter, [], 0⟩] scope pos) 0 (.ref it) (.ref s2.heap.objs.size) (compEnvC scope cl s3.heap.objs.size X.env)).onRaise (fun x => do noteFrame x (compEnvC scope cl s3.heap.objs.size X.env); theTreesLotGoes x)) _ _ s4
    refine wpAny_noted ?_
    rw [compTurn_list1]
    refine wpAny_bind (wpAny_standAt (wpAny_bind ?_))
    rcases turn i n ys H4 w4 with ⟨stop, qn⟩ | ⟨go, hz, step⟩
    · refine thn (T.done (blk X N' scope cl s3.heap.objs.size fp s3 H3) rfl rfl rfl hc i [] s4 (fr σ) H4 _ I4 (stat fr4) st4 stop) fun r s5 ⟨hr, I5⟩ => ?_
      subst hr
      refine wpAny_pure ?_
      obtain ⟨m, hn, _⟩ := I5.loc
      have hlt : ∀ b u, s3.heap.get? b = some u → b ≠ s3.heap.objs.size := fun b u e => Nat.ne_of_lt (Heap.lt_size e)
      have B := I5.base
      refine fin _ _ m s5 H4 _ hn (I3.fpOk (Nat.le_refl _) I5.free) ?_ qn
      refine I3.call' (s' := s5) (ch := fp) I5.os ⟨fun b o e n1 n2 n3 => B.keep b o e n1 n2 n3, fun b o e n1 n2 n3 => B.slot b o e n1 n2 n3, B.free, fun b o e n1 => B.there b o e n1, B.tups, B.frzs, B.tbls⟩ (fun a o e => I5.hok a o e) I5.bare (fun b hb' => ?_)
      exact ⟨(f2 b hb').2.2.2.1, (f2 b hb').2.1, (f2 b hb').2.2.2.2.1, (f2 b hb').2.2.2.2.2⟩
    · refine thn (T.item (blk X N' scope cl s3.heap.objs.size fp s3 H3) rfl rfl rfl hc i [] s4 (fr σ) H4 _ I4 (stat fr4) st4 go) fun r s5 ⟨u, hr, h5⟩ => ?_
      subst hr
      refine wpAny_bind (thn h5 fun _ s6 ⟨x, H6, I6, r6, y6, st6, fr6⟩ => ?_)
      have I6' := I6.pinned (stat fr6) (T.obj _ _ st6)
      refine wpAny_bind (wpAny_mono (hg s3.heap.objs.size fp s3 H3 _ s6 (fr σ) H6 x u _ I6' r6 (step x H6 y6)) (fun _ s7 ⟨σ7, H7, I7, kp, q7⟩ => ?_) fun _ _ z => z.elim)
      refine wpAny_bind (wpAny_bind (wpAny_mono (he s3.heap.objs.size fp s3 H3 _ s7 σ7 H7 _ I7 q7) (fun v8 s8 ⟨y8, H8, I8, r8, hD, m', hm, w8⟩ => ?_) fun _ _ z => z.elim))
      have ap := mt_append (X := blk X N' scope cl s3.heap.objs.size fp s3 H3) _ s8 σ7 H8 (.ref s2.heap.objs.size) [y8] (.ref s2.heap.objs.size) [v8] (fun _ H9 => W (i + 1) m' (ys ++ [y8]) H9) I8 rfl (.cons r8 .nil) ⟨_, ys, y8, rfl, rfl, hD, hz, w8⟩
      refine wpAny_bind (wpAny_mono ap (fun _ s9 ⟨_, H9, I9, _, w9⟩ => wpAny_pure (wpAny_pure ⟨rfl, m', hm, i + 1, ys ++ [y8], H9, ?_, ?_, ?_, w9⟩)) fun _ _ z => z.elim)
      · exact I9.unpinned.weak (by rw [kp.1]) kp.2
      · exact T.keep _ _ _ st6 fun b hb o e => (I9.pin (b, o) (List.mem_append_right _ (List.mem_append_right _ (mem_pinsAt hb e)))).1
      · intro b hb
        obtain ⟨o, e, d⟩ := T.obj _ _ st6 b hb
        exact (I9.pin (b, o) (List.mem_append_right _ (List.mem_append_right _ (mem_pinsAt hb e)))).2.1
  subst hs3
  exact codeAny_compStart_list loop (T.self X.A 0 _ _ _ stB loop)
/-- a name takes a comprehension's list -/
theorem ps_setC {i : Nat} {y : Str} {py spos : Pos} {elt iter tg : Expr} {scope : Scope} {pos : Pos} {t : TE} (hN : X.N.Nodup) (hi : X.N[i]? = some y) (hx : X.env.scope.names.lookup y = some .local) (h : CompR X (.ListComp elt [⟨tg, iter, [], 0⟩] scope pos) scope iter t)
    (hsw : swapsWith (.ListComp elt [⟨tg, iter, [], 0⟩] scope pos) (some (.Name y py)) spos.line X.env = pure true := by rfl) : PS X (.Assign [.Name y py] (.ListComp elt [⟨tg, iter, [], 0⟩] scope pos) spos) (tAsg t (gName i)) := by
  intro pins s σ H D I hw
  rw [exec_Assign_Name_used _ _ _ _ hsw]
  refine wpAny_bind (wpAny_standAt (wpAny_bind ?_))
  show wpAny _ _ (do let _ ← comprehension (.ListComp elt [⟨tg, iter, [], 0⟩] scope pos) scope X.env _ (newList []) false (eval iter X.env) (some (assign (.Name y py) X.env))) _ _ _
  refine wpAny_bind (wpAny_mono (h pins { s with } σ H _ (some (assign (.Name y py) X.env)) (fun _ s' => SP X pins D .next s') _ I hw fun D' C m s5 H4 r hn f I5 q => ?_) (fun _ s' hq => wpAny_pure (wpAny_pure hq)) fun _ _ e => e)
  refine wpAny_assign_Name (store_ok2 I5 hN hi (Or.inl hx) (v := .ref D') rfl (fun s6 I6 ⟨a, sb, ha⟩ => ?_) (.inr hx))
  have na : C ≠ a := by
    rcases ha with e | e
    · rw [e]; exact f.2.1
    · exact Ne.symm (f.2.2.2.2.1 y a e)
  refine ⟨m, hn.sameBut sb na, fun h' sb' => ⟨_, H4, ?_, q⟩⟩
  exact I6.turned (t' := s6.toks) (fun b o hb e => sb'.extBut b o hb e) f.1 f.2.1 f.2.2.2.1 f.2.2.2.2.1 f.2.2.2.2.2
theorem cr_lcompC {x y : Str} {px : Pos} {elt iter : Expr} {scope : Scope} {c : Addr} {pos : Pos} {wi : TI} {te : TE} (j : Nat)
    (hc : X.calm = true) (hi : PI X (.Name x px) iter wi)
    (hg : ∀ C fp s0 H0, PG (blk X [x, y] scope [(y, c)] C fp s0 H0) (.Name x px) (gName 0)) (he : ∀ C fp s0 H0, PE (blk X [x, y] scope [(y, c)] C fp s0 H0) elt te)
    (hclos : closureFor scope X.env = pure [(y, c)]) (hkind : scope.kind = .function) (hnames : ∀ x ∈ scope.names, x.2 = .local → scope.names.lookup x.1 = some .local) (hcell : ∀ y ∈ scope.names, y.2 ≠ .cell)
    (hcy : X.env.cells.lookup y = some c) (hNj : X.N[j]? = some y) (hk : X.env.kindOf y = some .cell) (hrel : (relabel scope X.env).names.lookup y = some .cell)
    (hall : ((relabel scope X.env).names.all fun p => (p.2 != .cell && p.2 != .free) || p.1 == y) = true)
    (hs : ∀ x, foldedSetIterable iter X.env x = pure x := by intro _; rfl) :
    CompR X (.ListComp elt [⟨.Name x px, iter, [], 0⟩] scope pos) scope iter (tComp wi (fun σ => [none, (σ[j]?).join]) (gName 0) te) := by
  refine cr_lcomp (N' := [x, y]) (cl := [(y, c)]) hc hi hg he hclos hkind hnames hcell (fun y' c' h => ?_) (fun y' h => ?_) (fun _ _ => rfl) (fun σ i y' v e1 e2 => ?_) hs
  · obtain ⟨rfl, rfl⟩ := lookup_one h
    exact hcy
  · rw [List.all_eq_true] at hall
    have key : ∀ k, (k = .cell ∨ k = .free) → (relabel scope X.env).names.lookup y' = some k → y' = y := fun k hk e => by
      have := hall _ (lookup_mem e)
      rcases hk with rfl | rfl
      · simpa using this
      · simpa using this
    have e : y' = y := by
      rcases h with h | h
      · exact key _ (.inl rfl) h
      · exact key _ (.inr rfl) h
    subst e
    exact ⟨c, by rw [List.lookup_cons, beq_self_eq_true]⟩
  · match i, e1, e2 with
    | 0, _, e2 => cases e2
    | 1, e1, e2 =>
      have e1' : y = y' := by simpa using e1
      subst e1'
      have e2' : (σ[j]?).join = some v := by simpa using e2
      refine ⟨j, hNj, ?_, hk, hrel⟩
      cases h : σ[j]? with
      | none => rw [h] at e2'; cases e2'
      | some o => rw [h] at e2'; have : o = some v := e2'; rw [this]
    | i + 2, e1, _ => simp at e1
end
end L2

set_option linter.all false
set_option maxRecDepth 100000
set_option maxHeartbeats 4000000
namespace L2
open PySem PySem.Spec PyProof.Rows
end L2

set_option linter.all false
set_option maxRecDepth 100000
set_option maxHeartbeats 4000000
namespace L2
open PySem PySem.Spec PyProof.Rows
section
variable {σ : St} {H : Hp} {D : Ends} {rest : TS} {ta tb te to : TE} {b : Bool} {k : Nat} {v0 : V} {i j : Int} {l : Addr} {xs : List V} {K : PySem.W.Frag} {t : TA}
/-- if ..: body, whatever it does, told by what holds behind it -/
theorem st_ifR {tc : TT} {u : TS} (R : St → Hp → Prop) (hc : PuT tc σ H b) (h1 : b = true → ∀ D' : Ends, (∀ σ' H', R σ' H' → D'.nx σ' H') → u D' σ H) (h0 : b = false → R σ H) (q : ∀ σ' H', R σ' H' → rest D σ' H') : tSeq (tIfS tc u tNext) rest D σ H :=
  st_ifN hc (fun e => h1 e _ q) (fun e => q _ _ (h0 e))
end
theorem gv_tupG {σ : St} {H : Hp} {t : TA} {RA : List V → Hp → Prop} (h : GvA t σ H RA) (hz : ∀ vs H1, RA vs H1 → vs.length ≤ sizeLine) : Gv (tTup t) σ H (fun v H' => ∃ vs H1 p, RA vs H1 ∧ H1 p = none ∧ v = .ref p ∧ H' = upd H1 p (.tup vs)) := fun Q q => h _ fun vs H1 r => ⟨hz vs H1 r, fun p hp => q _ _ ⟨vs, H1, p, r, hp, rfl, rfl⟩⟩
end L2

set_option linter.all false
set_option maxRecDepth 100000
set_option maxHeartbeats 4000000
namespace L2
open PySem PySem.Spec PyProof.Rows
/-! ### {} -/
/-! ### try: f(..) except C as n: .., with return -/
/-! ### isinstance of an exception with a tuple of classes -/
end L2

set_option linter.all false
set_option maxRecDepth 100000
set_option maxHeartbeats 4000000
namespace L2
open PySem PySem.Spec PyProof.Rows
section
variable {es : List Expr} {env : Env}
theorem star_tup {a b c} : starEach (.Tuple a b c :: es) env = (false, eval (.Tuple a b c) env) :: starEach es env := rfl
theorem star_con {a b c} : starEach (.Constant a b c :: es) env = (false, eval (.Constant a b c) env) :: starEach es env := rfl
theorem star_un {a b c} : starEach (.UnaryOp a b c :: es) env = (false, eval (.UnaryOp a b c) env) :: starEach es env := rfl
theorem star_bin {a b c d} : starEach (.BinOp a b c d :: es) env = (false, eval (.BinOp a b c d) env) :: starEach es env := rfl
theorem star_name {a b} : starEach (.Name a b :: es) env = (false, eval (.Name a b) env) :: starEach es env := rfl
theorem star_call {a b c d} : starEach (.Call a b c d :: es) env = (false, eval (.Call a b c d) env) :: starEach es env := rfl
theorem star_sub {a b c} : starEach (.Subscript a b c :: es) env = (false, eval (.Subscript a b c) env) :: starEach es env := rfl
theorem star_attr {a b c} : starEach (.Attribute a b c :: es) env = (false, eval (.Attribute a b c) env) :: starEach es env := rfl
theorem star_cmp {a b c d} : starEach (.Compare a b c d :: es) env = (false, eval (.Compare a b c d) env) :: starEach es env := rfl
end
end L2

set_option linter.all false
set_option maxHeartbeats 4000000
namespace L2
/-! ### rounds -/
/-- the sign of a product, by cases -/
theorem psgn (x y : Int) : (0 < x ∧ 0 < y ∧ 0 < x * y) ∨ (x < 0 ∧ y < 0 ∧ 0 < x * y) ∨ (0 < x ∧ y < 0 ∧ x * y < 0) ∨ (x < 0 ∧ 0 < y ∧ x * y < 0) ∨ (x = 0 ∧ x * y = 0) ∨ (y = 0 ∧ x * y = 0) := by
  rcases Int.lt_trichotomy x 0 with h | h | h
  · rcases Int.lt_trichotomy y 0 with g | g | g
    · exact .inr (.inl ⟨h, g, Int.mul_pos_of_neg_of_neg h g⟩)
    · exact .inr (.inr (.inr (.inr (.inr ⟨g, by rw [g, Int.mul_zero]⟩))))
    · exact .inr (.inr (.inr (.inl ⟨h, g, Int.mul_neg_of_neg_of_pos h g⟩)))
  · exact .inr (.inr (.inr (.inr (.inl ⟨h, by rw [h, Int.zero_mul]⟩))))
  · rcases Int.lt_trichotomy y 0 with g | g | g
    · exact .inr (.inr (.inl ⟨h, g, Int.mul_neg_of_pos_of_neg h g⟩))
    · exact .inr (.inr (.inr (.inr (.inr ⟨g, by rw [g, Int.mul_zero]⟩))))
    · exact .inl ⟨h, g, Int.mul_pos h g⟩

/-! ### sums round a ring -/
end L2

set_option linter.all false
set_option maxRecDepth 100000
set_option maxHeartbeats 4000000
namespace L2
open PySem PySem.Spec PyProof.Rows

/-! ### sides, laid -/
end L2

set_option linter.all false
set_option maxRecDepth 100000
set_option maxHeartbeats 4000000
namespace L2
open PySem PySem.Spec PyProof.Rows
end L2

set_option linter.all false
set_option maxRecDepth 100000
set_option maxHeartbeats 4000000
namespace L2
open PySem PySem.Spec PyProof.Rows
/-! ### plain data, laid -/
/-! ### [::-1] -/
theorem pick_rev (its : List Value) : slicePick its.toArray none none (some (-1)) = its.reverse.toArray := by
  unfold slicePick
  congr 1
  have b1 : (sliceBounds none none (some (-1)) its.toArray.size).1 = (its.length : Int) - 1 := by
    simp only [sliceBounds, Option.getD_some, show ¬ ((-1 : Int) > 0) by decide, if_false, List.size_toArray]
  have b2 : (sliceBounds none none (some (-1)) its.toArray.size).2.1 = -1 := by
    simp only [sliceBounds, Option.getD_some, show ¬ ((-1 : Int) > 0) by decide, if_false, List.size_toArray]
  have b3 : (sliceBounds none none (some (-1)) its.toArray.size).2.2 = -1 := rfl
  rw [b1, b2, b3]
  have e : sliceRange ((its.length : Int) - 1) (-1) (-1) = (List.range its.length).map (fun j => its.length - 1 - j) := by
    unfold sliceRange
    simp only [show ¬ ((-1 : Int) > 0) by decide, if_false]
    by_cases h : 0 < its.length
    · rw [if_pos (by omega)]
      have c : (((its.length : Int) - 1 - -1 - -1 - 1) / (- -1)).toNat = its.length := by
        rw [show (- -1 : Int) = 1 from rfl, Int.ediv_one]
        omega
      rw [c]
      refine List.map_congr_left fun j hj => ?_
      have := List.mem_range.mp hj
      omega
    · rw [if_neg (by omega)]
      have : its.length = 0 := by omega
      rw [this]; rfl
  rw [e]
  apply List.ext_getElem?
  intro i
  have key : ∀ (n : Nat), n ≤ its.length → ((List.range n).map fun j => its.length - 1 - j).filterMap (fun (i : Nat) => its.toArray[i]?) = (its.reverse).take n := by
    intro n
    induction n with
    | zero => intro _; rfl
    | succ n ih =>
      intro hn
      rw [List.range_succ, List.map_append, List.filterMap_append, ih (by omega), List.take_succ]
      congr 1
      simp only [List.map_cons, List.map_nil, List.filterMap_cons, List.filterMap_nil]
      rw [List.getElem?_reverse (by omega)]
      simp only [List.getElem?_toArray]
      cases its[its.length - 1 - n]? <;> rfl
  have := key its.length (Nat.le_refl _)
  rw [← List.length_reverse, List.take_length] at this
  rw [List.length_reverse] at this
  rw [← this]
section
variable {X : Cx} {e : Expr} {te : TE} {lo hi : Option Expr} {tl th ts : TO} {pos p2 : Pos}
def rSlR (K : PySem.W.Frag) : V → Option Int → Option Int → Option Int → Hp → VK → Prop := fun x lo hi g H Q =>
  ∃ a xs, x = .ref a ∧ lo = none ∧ hi = none ∧ g = some (-1) ∧ SqL K H a xs ∧ ∀ p, H p = none → Q (.ref p) (upd H p (.lst xs.reverse))
theorem pe_sliceR {g : Expr} (he : PE X e te) (hl : PO X lo tl) (hu : PO X hi th) (hg : PO X (some g) ts) : PE X (.Subscript e (.Slice lo hi (some g) p2) pos) (tSl3 (rSlR X.K) te tl th ts) := by
  intro pins s σ H Q I h
  refine Subscript_ (thn (he pins s σ H _ I h) fun v s1 ⟨x, H1, I1, r1, q1⟩ => ?_)
  refine wpAny_Slice (thn (hl pins s1 σ H1 _ I1 q1) fun vl s2 ⟨l, H2, I2, pl, q2⟩ => thn (hu pins s2 σ H2 _ I2 q2) fun vu s3 ⟨u, H3, I3, pu, q3⟩ => thn (hg pins s3 σ H3 _ I3 q3) fun vg s4 ⟨g', H4, I4, pg, q4⟩ => ?_)
  have I5 : Inv X pins σ H4 { s4 with heap := s4.heap.push { cls := .type "slice", data := .fields #[vl, vu, vg] } } := I4.kept (t' := s4.toks) fun b ob q => Heap.get?_push_of_some _ q
  obtain ⟨a, xs, rfl, rfl, rfl, rfl, hx, q⟩ := q4
  cases r1
  obtain ⟨its, r, ht, hz⟩ := I5.list hx
  have hlen := r.length
  refine tail_any (ops := [.ref a, .ref s4.heap.objs.size]) ht.isList.typeIs slot_list_getitem.lookup ?_ (by with_unfolding_all rfl)
  refine wpAny_getItem_list_slice ht.isList (Heap.IsSliceOf.new ..) pl pu pg (by simp) ?_ (by rw [List.size_toArray] <;> omega)
  rw [pick_rev its]
  refine ⟨.ref _, _, I5.laid (t' := s4.toks) (o := .lst xs.reverse) (fun b ob q => Heap.get?_push_of_some _ q) (Nat.le_refl _) ?_, rfl, q _ (I5.hok.fresh (Nat.le_refl _))⟩
  refine ⟨?_, _, 0, r.reverse, Heap.get?_push_size _ rfl⟩
  rw [List.length_reverse]
  omega
end
section
variable {σ : St} {H : Hp} {D : Ends} {rest : TS} {K : PySem.W.Frag} {to : TE} {a : Addr} {xs : List V}
theorem gv_slR (ho : Pu to σ H (.ref a)) (ha : H a = some (.lst xs)) : Gv (tSl3 (rSlR K) to tNoPart tNoPart (tPart (tUn (rU fun i => .int (-i)) (tC (.int 1))))) σ H (fun v H' => ∃ p, H p = none ∧ v = .ref p ∧ H' = upd H p (.lst xs.reverse)) :=
  fun Q q => ho _ ⟨1, rfl, -1, rfl, a, xs, rfl, rfl, rfl, rfl, SqL.of ha, fun p hp => q _ _ ⟨p, hp, rfl, rfl⟩⟩
theorem st_clear (ho : Pu to σ H (.ref a)) (ha : H a = some (.lst xs)) (q : rest D σ (upd H a (.lst []))) : tSeq (tDrop (tBM0 K "list" rClear to)) rest D σ H :=
  ho _ ⟨.inl ⟨rfl, _, SqL.of ha⟩, a, xs, rfl, rfl, ha, q⟩
end
end L2

set_option linter.all false
set_option maxHeartbeats 4000000
namespace L2
/-! ### points that are drawn, one after another -/
end L2

set_option linter.all false
set_option maxRecDepth 100000
set_option maxHeartbeats 4000000
namespace L2
open PySem PySem.Spec PyProof.Rows
end L2

set_option linter.all false
set_option maxRecDepth 100000
set_option maxHeartbeats 4000000
namespace L2
open PySem PySem.Spec PyProof.Rows
end L2

set_option linter.all false
set_option maxRecDepth 100000
set_option maxHeartbeats 4000000
namespace L2
open PySem PySem.Spec PyProof.Rows
theorem TupsT.reverse {H : Hp} : ∀ {vs : List V} {nss : List (List Int)}, TupsT H vs nss → TupsT H vs.reverse nss.reverse
  | _, _, .nil => .nil
  | _, _, .cons h t => by
    rw [List.reverse_cons, List.reverse_cons]
    exact TupsT.snoc (TupsT.reverse t) h
end L2

set_option linter.all false
set_option maxHeartbeats 4000000
namespace L2
/-! ### a side and a cell, in the plane -/
theorem lex_iff (w u : Int) : lex w u = true ↔ (0 < w ∨ (w = 0 ∧ 0 < u)) := by
  unfold lex
  by_cases h : w = 0
  · rw [if_pos h]; simp [h]
  · rw [if_neg h]; simp [h]
theorem lex_iff' (w u : Int) : lex w u = false ↔ (w < 0 ∨ (w = 0 ∧ u ≤ 0)) := by
  rw [Bool.eq_false_iff, ne_eq, lex_iff]
  (lia (splits := 80))
def dP2 (x0 y0 x1 y1 x2 y2 : Int) : Int := (x1 - x0) * (y2 - y0) - (y1 - y0) * (x2 - x0)
def onP (cx cy x0 y0 x1 y1 : Int) : Bool := if dP2 x0 y0 x1 y1 cx cy = 0 then (if lex (x1 - x0) (y1 - y0) = true then !lex (x0 - cx) (y0 - cy) && !lex (cx - x1) (cy - y1) else !lex (x1 - cx) (y1 - cy) && !lex (cx - x0) (cy - y0)) else false
def touchP (x0 y0 x1 y1 x2 y2 x3 y3 : Int) : Bool :=
  if (onP x0 y0 x2 y2 x3 y3 || (onP x1 y1 x2 y2 x3 y3 || (onP x2 y2 x0 y0 x1 y1 || onP x3 y3 x0 y0 x1 y1))) = true then true
  else if 0 ≤ sgn (dP2 x0 y0 x1 y1 x2 y2) * sgn (dP2 x0 y0 x1 y1 x3 y3) then false else decide (sgn (dP2 x2 y2 x3 y3 x0 y0) * sgn (dP2 x2 y2 x3 y3 x1 y1) < 0)
theorem onP_iff (cx cy x0 y0 x1 y1 : Int) : onP cx cy x0 y0 x1 y1 = true ↔ dP2 x0 y0 x1 y1 cx cy = 0 ∧
    (((0 < x1 - x0 ∨ (x1 - x0 = 0 ∧ 0 < y1 - y0)) ∧ (x0 - cx < 0 ∨ (x0 - cx = 0 ∧ y0 - cy ≤ 0)) ∧ (cx - x1 < 0 ∨ (cx - x1 = 0 ∧ cy - y1 ≤ 0))) ∨
     ((x1 - x0 < 0 ∨ (x1 - x0 = 0 ∧ y1 - y0 ≤ 0)) ∧ (x1 - cx < 0 ∨ (x1 - cx = 0 ∧ y1 - cy ≤ 0)) ∧ (cx - x0 < 0 ∨ (cx - x0 = 0 ∧ cy - y0 ≤ 0)))) := by
  unfold onP
  by_cases h : dP2 x0 y0 x1 y1 cx cy = 0
  · rw [if_pos h]
    by_cases g : lex (x1 - x0) (y1 - y0) = true
    · rw [if_pos g, Bool.and_eq_true, Bool.not_eq_true', Bool.not_eq_true', lex_iff', lex_iff']
      rw [lex_iff] at g
      (lia (splits := 80))
    · rw [if_neg g, Bool.and_eq_true, Bool.not_eq_true', Bool.not_eq_true', lex_iff', lex_iff']
      rw [lex_iff] at g
      (lia (splits := 80))
  · rw [if_neg h]
    simp [h]
theorem sgn_opp (x y : Int) : sgn x * sgn y < 0 ↔ ((0 < x ∧ y < 0) ∨ (x < 0 ∧ 0 < y)) := by
  unfold sgn
  (repeat' split) <;> (lia (splits := 80))
theorem touchP_iff (x0 y0 x1 y1 x2 y2 x3 y3 : Int) : touchP x0 y0 x1 y1 x2 y2 x3 y3 = true ↔ onP x0 y0 x2 y2 x3 y3 = true ∨ onP x1 y1 x2 y2 x3 y3 = true ∨ onP x2 y2 x0 y0 x1 y1 = true ∨ onP x3 y3 x0 y0 x1 y1 = true ∨
    (sgn (dP2 x0 y0 x1 y1 x2 y2) * sgn (dP2 x0 y0 x1 y1 x3 y3) < 0 ∧ sgn (dP2 x2 y2 x3 y3 x0 y0) * sgn (dP2 x2 y2 x3 y3 x1 y1) < 0) := by
  unfold touchP
  by_cases h : (onP x0 y0 x2 y2 x3 y3 || (onP x1 y1 x2 y2 x3 y3 || (onP x2 y2 x0 y0 x1 y1 || onP x3 y3 x0 y0 x1 y1))) = true
  · rw [if_pos h]
    simp only [Bool.or_eq_true] at h
    simp only [true_iff]
    rcases h with h | h | h | h
    · exact .inl h
    · exact .inr (.inl h)
    · exact .inr (.inr (.inl h))
    · exact .inr (.inr (.inr (.inl h)))
  · rw [if_neg h]
    simp only [Bool.or_eq_true, not_or] at h
    obtain ⟨h1, h2, h3, h4⟩ := h
    by_cases g : 0 ≤ sgn (dP2 x0 y0 x1 y1 x2 y2) * sgn (dP2 x0 y0 x1 y1 x3 y3)
    · rw [if_pos g]
      constructor
      · intro z; cases z
      · rintro (z | z | z | z | z)
        · exact absurd z h1
        · exact absurd z h2
        · exact absurd z h3
        · exact absurd z h4
        · (lia (splits := 80))
    · rw [if_neg g, decide_eq_true_eq]
      constructor
      · intro z
        exact .inr (.inr (.inr (.inr ⟨by (lia (splits := 80)), z⟩)))
      · rintro (z | z | z | z | z)
        · exact absurd z h1
        · exact absurd z h2
        · exact absurd z h3
        · exact absurd z h4
        · exact z.2
/-- the border from (0, 0) to (cx, cy) without its far end -/
def bordP (x0 y0 x1 y1 cx cy : Int) : Bool := if touchP x0 y0 x1 y1 0 0 cx cy = false then false else if onP cx cy x0 y0 x1 y1 = false then true else if ¬ sgn (dP2 x0 y0 x1 y1 0 0) = 0 then false else (lex (cx - x0) (cy - y0) || lex (cx - x1) (cy - y1))
theorem bordP_iff (x0 y0 x1 y1 cx cy : Int) : bordP x0 y0 x1 y1 cx cy = true ↔ touchP x0 y0 x1 y1 0 0 cx cy = true ∧ (¬ onP cx cy x0 y0 x1 y1 = true ∨ (dP2 x0 y0 x1 y1 0 0 = 0 ∧ ((0 < cx - x0 ∨ (cx - x0 = 0 ∧ 0 < cy - y0)) ∨ (0 < cx - x1 ∨ (cx - x1 = 0 ∧ 0 < cy - y1))))) := by
  unfold bordP
  by_cases h : touchP x0 y0 x1 y1 0 0 cx cy = true
  · rw [if_neg (by rw [h]; decide)]
    by_cases g : onP cx cy x0 y0 x1 y1 = true
    · rw [if_neg (by rw [g]; decide)]
      by_cases e : sgn (dP2 x0 y0 x1 y1 0 0) = 0
      · rw [if_neg (by simp [e]), Bool.or_eq_true, lex_iff, lex_iff]
        have := sgn_eq0.mp e
        simp [h, g, this]
      · rw [if_pos e]
        have : ¬ dP2 x0 y0 x1 y1 0 0 = 0 := fun z => e (sgn_eq0.mpr z)
        simp [g, this]
    · have g' : onP cx cy x0 y0 x1 y1 = false := by simpa using g
      rw [if_pos g']
      simp [h, g']
  · have h' : touchP x0 y0 x1 y1 0 0 cx cy = false := by simpa using h
    rw [if_pos h']
    simp [h']
end L2

set_option linter.all false
set_option maxHeartbeats 4000000
namespace L2
/-- the sign of a product, one factor's sign being known -/
theorem pm_pos {a y : Int} (ha : 0 < a) : (0 < y ∧ 0 < a * y) ∨ (y < 0 ∧ a * y < 0) ∨ (y = 0 ∧ a * y = 0) := by
  have := psgn a y
  (lia (splits := 80))
theorem pm_neg {a y : Int} (ha : a < 0) : (0 < y ∧ a * y < 0) ∨ (y < 0 ∧ 0 < a * y) ∨ (y = 0 ∧ a * y = 0) := by
  have := psgn a y
  (lia (splits := 80))
/-- the side meets the left border without its upper end -/
def BL (x0 y0 a b h : Int) : Prop := (0 < a ∧ x0 ≤ 0 ∧ 0 ≤ x0 + a ∧ b * x0 - a * y0 ≤ 0 ∧ 0 < b * x0 - a * y0 + a * h) ∨ (a < 0 ∧ 0 ≤ x0 ∧ x0 + a ≤ 0 ∧ 0 ≤ b * x0 - a * y0 ∧ b * x0 - a * y0 + a * h < 0) ∨ (a = 0 ∧ x0 = 0 ∧ ((0 < b ∧ y0 < h ∧ 0 ≤ y0 + b) ∨ (b < 0 ∧ y0 + b < h ∧ 0 ≤ y0)))
theorem on_left {x y h : Int} (hh : 0 < h) : onP x y 0 0 0 h = true ↔ x = 0 ∧ 0 ≤ y ∧ y ≤ h := by
  rw [onP_iff]
  have d : dP2 0 0 0 h x y = -(h * x) := by unfold dP2; grind
  rw [d]
  have p := pm_pos (y := x) hh
  generalize h * x = k at *
  (lia (splits := 80))
theorem opp_left {x z h : Int} (hh : 0 < h) : ((0 < -(h * x) ∧ -(h * z) < 0) ∨ (-(h * x) < 0 ∧ 0 < -(h * z))) ↔ ((0 < x ∧ z < 0) ∨ (x < 0 ∧ 0 < z)) := by
  have p := pm_pos (y := x) hh
  have q := pm_pos (y := z) hh
  generalize h * x = k at *
  generalize h * z = l at *
  (lia (splits := 80))
/-- between, for a side that goes right -/
theorem on_right {c d x0 y0 a b : Int} (ha : 0 < a) : onP c d x0 y0 (x0 + a) (y0 + b) = true ↔ dP2 x0 y0 (x0 + a) (y0 + b) c d = 0 ∧ (x0 < c ∨ (x0 = c ∧ y0 ≤ d)) ∧ (c < x0 + a ∨ (c = x0 + a ∧ d ≤ y0 + b)) := by
  rw [onP_iff]
  generalize dP2 x0 y0 (x0 + a) (y0 + b) c d = E
  (lia (splits := 80))
theorem on_leftw {c d x0 y0 a b : Int} (ha : a < 0) : onP c d x0 y0 (x0 + a) (y0 + b) = true ↔ dP2 x0 y0 (x0 + a) (y0 + b) c d = 0 ∧ (x0 + a < c ∨ (x0 + a = c ∧ y0 + b ≤ d)) ∧ (c < x0 ∨ (c = x0 ∧ d ≤ y0)) := by
  rw [onP_iff]
  generalize dP2 x0 y0 (x0 + a) (y0 + b) c d = E
  (lia (splits := 80))
theorem on_up {c d x0 y0 b : Int} (hb : 0 < b) : onP c d x0 y0 (x0 + 0) (y0 + b) = true ↔ c = x0 ∧ y0 ≤ d ∧ d ≤ y0 + b := by
  rw [onP_iff]
  have e : dP2 x0 y0 (x0 + 0) (y0 + b) c d = -(b * (c - x0)) := by unfold dP2; grind
  rw [e]
  have p := pm_pos (y := c - x0) hb
  generalize b * (c - x0) = k at *
  (lia (splits := 80))
theorem on_down {c d x0 y0 b : Int} (hb : b < 0) : onP c d x0 y0 (x0 + 0) (y0 + b) = true ↔ c = x0 ∧ y0 + b ≤ d ∧ d ≤ y0 := by
  rw [onP_iff]
  have e : dP2 x0 y0 (x0 + 0) (y0 + b) c d = -(b * (c - x0)) := by unfold dP2; grind
  rw [e]
  have p := pm_neg (y := c - x0) hb
  generalize b * (c - x0) = k at *
  (lia (splits := 80))
theorem bl_form {x0 y0 a b h : Int} (hh : 0 < h) (hn : ¬ (a = 0 ∧ b = 0)) : bordP x0 y0 (x0 + a) (y0 + b) 0 h = true ↔ BL x0 y0 a b h := by
  rw [bordP_iff, touchP_iff, on_left hh, on_left hh, sgn_opp, sgn_opp]
  have d1 : dP2 0 0 0 h x0 y0 = -(h * x0) := by unfold dP2; grind
  have d2 : dP2 0 0 0 h (x0 + a) (y0 + b) = -(h * (x0 + a)) := by unfold dP2; grind
  have d3 : dP2 x0 y0 (x0 + a) (y0 + b) 0 0 = b * x0 - a * y0 := by unfold dP2; grind
  have d4 : dP2 x0 y0 (x0 + a) (y0 + b) 0 h = b * x0 - a * y0 + a * h := by unfold dP2; grind
  rw [d1, d2, opp_left hh]
  unfold BL
  rcases Int.lt_trichotomy a 0 with ha | ha | ha
  · rw [on_leftw ha, on_leftw ha, d3, d4]
    have p3 := pm_neg (y := h) ha
    by_cases c1 : x0 = 0
    · subst c1
      have p4 := pm_neg (y := y0) ha
      have p5 := pm_neg (y := h - y0) ha
      rw [Int.mul_sub] at p5
      rw [Int.mul_zero]
      generalize a * h = m3 at *
      generalize a * y0 = m4 at *
      (lia (splits := 80))
    · by_cases c2 : x0 + a = 0
      · have e : x0 = -a := by (lia (splits := 80))
        subst e
        have p4 := pm_neg (y := y0 + b) ha
        have p5 := pm_neg (y := h - (y0 + b)) ha
        rw [Int.mul_sub, Int.mul_add] at p5
        rw [Int.mul_add] at p4
        have e2 : b * -a = -(a * b) := by grind
        rw [e2]
        generalize a * h = m3 at *
        generalize a * y0 = m4 at *
        generalize a * b = m5 at *
        (lia (splits := 80))
      · generalize b * x0 - a * y0 = E at *
        generalize a * h = m3 at *
        (lia (splits := 80))
  · subst ha
    have hb : b ≠ 0 := fun e => hn ⟨rfl, e⟩
    rw [d3, d4, Int.zero_mul, Int.zero_mul]
    rcases Int.lt_trichotomy b 0 with hb' | hb' | hb'
    · rw [on_down hb', on_down hb']
      have p4 := pm_neg (y := x0) hb'
      generalize b * x0 = m4 at *
      (lia (splits := 80))
    · exact absurd hb' hb
    · rw [on_up hb', on_up hb']
      have p4 := pm_pos (y := x0) hb'
      generalize b * x0 = m4 at *
      (lia (splits := 80))
  · rw [on_right ha, on_right ha, d3, d4]
    have p3 := pm_pos (y := h) ha
    by_cases c1 : x0 = 0
    · subst c1
      have p4 := pm_pos (y := y0) ha
      have p5 := pm_pos (y := h - y0) ha
      rw [Int.mul_sub] at p5
      rw [Int.mul_zero]
      generalize a * h = m3 at *
      generalize a * y0 = m4 at *
      (lia (splits := 80))
    · by_cases c2 : x0 + a = 0
      · have e : x0 = -a := by (lia (splits := 80))
        subst e
        have p4 := pm_pos (y := y0 + b) ha
        have p5 := pm_pos (y := h - (y0 + b)) ha
        rw [Int.mul_sub, Int.mul_add] at p5
        rw [Int.mul_add] at p4
        have e2 : b * -a = -(a * b) := by grind
        rw [e2]
        generalize a * h = m3 at *
        generalize a * y0 = m4 at *
        generalize a * b = m5 at *
        (lia (splits := 80))
      · generalize b * x0 - a * y0 = E at *
        generalize a * h = m3 at *
        (lia (splits := 80))
end L2

set_option linter.all false
set_option maxHeartbeats 4000000
namespace L2
/-- the side meets the lower border without its right end -/
def BB (x0 y0 a b h : Int) : Prop := (0 < b ∧ y0 ≤ 0 ∧ 0 ≤ y0 + b ∧ 0 ≤ b * x0 - a * y0 ∧ b * x0 - a * y0 - b * h < 0) ∨ (b < 0 ∧ 0 ≤ y0 ∧ y0 + b ≤ 0 ∧ b * x0 - a * y0 ≤ 0 ∧ 0 < b * x0 - a * y0 - b * h) ∨ (b = 0 ∧ y0 = 0 ∧ ((0 < a ∧ x0 < h ∧ 0 ≤ x0 + a) ∨ (a < 0 ∧ x0 + a < h ∧ 0 ≤ x0)))
theorem on_low {x y h : Int} (hh : 0 < h) : onP x y 0 0 h 0 = true ↔ y = 0 ∧ 0 ≤ x ∧ x ≤ h := by
  rw [onP_iff]
  have d : dP2 0 0 h 0 x y = h * y := by unfold dP2; grind
  rw [d]
  have p := pm_pos (y := y) hh
  generalize h * y = k at *
  (lia (splits := 80))
theorem opp_low {x z h : Int} (hh : 0 < h) : ((0 < h * x ∧ h * z < 0) ∨ (h * x < 0 ∧ 0 < h * z)) ↔ ((0 < x ∧ z < 0) ∨ (x < 0 ∧ 0 < z)) := by
  have p := pm_pos (y := x) hh
  have q := pm_pos (y := z) hh
  generalize h * x = k at *
  generalize h * z = l at *
  (lia (splits := 80))
/-- between, by the heights -/
theorem on_rise {c d x0 y0 a b : Int} (hb : 0 < b) : onP c d x0 y0 (x0 + a) (y0 + b) = true ↔ dP2 x0 y0 (x0 + a) (y0 + b) c d = 0 ∧ y0 ≤ d ∧ d ≤ y0 + b := by
  have e1 : dP2 x0 y0 (x0 + a) (y0 + b) c d = a * (d - y0) - b * (c - x0) := by unfold dP2; grind
  have e2 : dP2 x0 y0 (x0 + a) (y0 + b) c d = b * (x0 + a - c) - a * (y0 + b - d) := by unfold dP2; grind
  have p1 := pm_pos (y := c - x0) hb
  have p2 := pm_pos (y := x0 + a - c) hb
  rcases Int.lt_trichotomy a 0 with ha | ha | ha
  · have p3 := pm_neg (y := d - y0) ha
    have p4 := pm_neg (y := y0 + b - d) ha
    rw [on_leftw ha]
    generalize dP2 x0 y0 (x0 + a) (y0 + b) c d = E at *
    generalize b * (c - x0) = m1 at *
    generalize b * (x0 + a - c) = m2 at *
    generalize a * (d - y0) = m3 at *
    generalize a * (y0 + b - d) = m4 at *
    (lia (splits := 80))
  · subst ha
    rw [on_up hb]
    rw [Int.zero_mul] at e1 e2
    generalize dP2 x0 y0 (x0 + 0) (y0 + b) c d = E at *
    generalize b * (c - x0) = m1 at *
    (lia (splits := 80))
  · have p3 := pm_pos (y := d - y0) ha
    have p4 := pm_pos (y := y0 + b - d) ha
    rw [on_right ha]
    generalize dP2 x0 y0 (x0 + a) (y0 + b) c d = E at *
    generalize b * (c - x0) = m1 at *
    generalize b * (x0 + a - c) = m2 at *
    generalize a * (d - y0) = m3 at *
    generalize a * (y0 + b - d) = m4 at *
    (lia (splits := 80))
theorem on_fall {c d x0 y0 a b : Int} (hb : b < 0) : onP c d x0 y0 (x0 + a) (y0 + b) = true ↔ dP2 x0 y0 (x0 + a) (y0 + b) c d = 0 ∧ y0 + b ≤ d ∧ d ≤ y0 := by
  have e1 : dP2 x0 y0 (x0 + a) (y0 + b) c d = a * (d - y0) - b * (c - x0) := by unfold dP2; grind
  have e2 : dP2 x0 y0 (x0 + a) (y0 + b) c d = b * (x0 + a - c) - a * (y0 + b - d) := by unfold dP2; grind
  have p1 := pm_neg (y := c - x0) hb
  have p2 := pm_neg (y := x0 + a - c) hb
  rcases Int.lt_trichotomy a 0 with ha | ha | ha
  · have p3 := pm_neg (y := d - y0) ha
    have p4 := pm_neg (y := y0 + b - d) ha
    rw [on_leftw ha]
    generalize dP2 x0 y0 (x0 + a) (y0 + b) c d = E at *
    generalize b * (c - x0) = m1 at *
    generalize b * (x0 + a - c) = m2 at *
    generalize a * (d - y0) = m3 at *
    generalize a * (y0 + b - d) = m4 at *
    (lia (splits := 80))
  · subst ha
    rw [on_down hb]
    rw [Int.zero_mul] at e1 e2
    generalize dP2 x0 y0 (x0 + 0) (y0 + b) c d = E at *
    generalize b * (c - x0) = m1 at *
    (lia (splits := 80))
  · have p3 := pm_pos (y := d - y0) ha
    have p4 := pm_pos (y := y0 + b - d) ha
    rw [on_right ha]
    generalize dP2 x0 y0 (x0 + a) (y0 + b) c d = E at *
    generalize b * (c - x0) = m1 at *
    generalize b * (x0 + a - c) = m2 at *
    generalize a * (d - y0) = m3 at *
    generalize a * (y0 + b - d) = m4 at *
    (lia (splits := 80))
end L2

set_option linter.all false
set_option maxHeartbeats 4000000
namespace L2
theorem bb_form {x0 y0 a b h : Int} (hh : 0 < h) (hn : ¬ (a = 0 ∧ b = 0)) : bordP x0 y0 (x0 + a) (y0 + b) h 0 = true ↔ BB x0 y0 a b h := by
  rw [bordP_iff, touchP_iff, on_low hh, on_low hh, sgn_opp, sgn_opp]
  have d1 : dP2 0 0 h 0 x0 y0 = h * y0 := by unfold dP2; grind
  have d2 : dP2 0 0 h 0 (x0 + a) (y0 + b) = h * (y0 + b) := by unfold dP2; grind
  have d3 : dP2 x0 y0 (x0 + a) (y0 + b) 0 0 = b * x0 - a * y0 := by unfold dP2; grind
  have d4 : dP2 x0 y0 (x0 + a) (y0 + b) h 0 = b * x0 - a * y0 - b * h := by unfold dP2; grind
  rw [d1, d2, opp_low hh]
  unfold BB
  rcases Int.lt_trichotomy b 0 with hb | hb | hb
  · rw [on_fall hb, on_fall hb, d3, d4]
    have p3 := pm_neg (y := h) hb
    by_cases c1 : y0 = 0
    · subst c1
      have p4 := pm_neg (y := x0) hb
      have p5 := pm_neg (y := h - x0) hb
      rw [Int.mul_sub] at p5
      rw [Int.mul_zero]
      generalize b * h = m3 at *
      generalize b * x0 = m4 at *
      (lia (splits := 80))
    · by_cases c2 : y0 + b = 0
      · have e : y0 = -b := by (lia (splits := 80))
        subst e
        have p4 := pm_neg (y := x0 + a) hb
        have p5 := pm_neg (y := h - (x0 + a)) hb
        rw [Int.mul_sub, Int.mul_add] at p5
        rw [Int.mul_add] at p4
        have e2 : a * -b = -(b * a) := by grind
        rw [e2]
        generalize b * h = m3 at *
        generalize b * x0 = m4 at *
        generalize b * a = m5 at *
        (lia (splits := 80))
      · generalize b * x0 - a * y0 = E at *
        generalize b * h = m3 at *
        (lia (splits := 80))
  · subst hb
    have ha : a ≠ 0 := fun e => hn ⟨e, rfl⟩
    rcases Int.lt_trichotomy a 0 with ha' | ha' | ha'
    · rw [on_leftw ha', on_leftw ha', d3, d4, Int.zero_mul, Int.zero_mul]
      have p4 := pm_neg (y := y0) ha'
      generalize a * y0 = m4 at *
      (lia (splits := 80))
    · exact absurd ha' ha
    · rw [on_right ha', on_right ha', d3, d4, Int.zero_mul, Int.zero_mul]
      have p4 := pm_pos (y := y0) ha'
      generalize a * y0 = m4 at *
      (lia (splits := 80))
  · rw [on_rise hb, on_rise hb, d3, d4]
    have p3 := pm_pos (y := h) hb
    by_cases c1 : y0 = 0
    · subst c1
      have p4 := pm_pos (y := x0) hb
      have p5 := pm_pos (y := h - x0) hb
      rw [Int.mul_sub] at p5
      rw [Int.mul_zero]
      generalize b * h = m3 at *
      generalize b * x0 = m4 at *
      (lia (splits := 80))
    · by_cases c2 : y0 + b = 0
      · have e : y0 = -b := by (lia (splits := 80))
        subst e
        have p4 := pm_pos (y := x0 + a) hb
        have p5 := pm_pos (y := h - (x0 + a)) hb
        rw [Int.mul_sub, Int.mul_add] at p5
        rw [Int.mul_add] at p4
        have e2 : a * -b = -(b * a) := by grind
        rw [e2]
        generalize b * h = m3 at *
        generalize b * x0 = m4 at *
        generalize b * a = m5 at *
        (lia (splits := 80))
      · generalize b * x0 - a * y0 = E at *
        generalize b * h = m3 at *
        (lia (splits := 80))
end L2

set_option linter.all false
set_option maxHeartbeats 4000000
namespace L2
/-- every lower bound of the program's spans below every upper one -/
structure PR (x0 y0 a b h : Int) : Prop where
  px : (a = 0 ∧ 0 ≤ x0 ∧ x0 < h) ∨ (0 < a ∧ 0 ≤ x0 + a ∧ x0 < h) ∨ (a < 0 ∧ x0 + a < h ∧ 0 ≤ x0)
  py : (b = 0 ∧ 0 ≤ y0 ∧ y0 < h) ∨ (0 < b ∧ 0 ≤ y0 + b ∧ y0 < h) ∨ (b < 0 ∧ y0 + b < h ∧ 0 ≤ y0)
  pp : 0 < a → 0 < b → 0 < b * x0 - a * y0 + a * h ∧ b * x0 - a * y0 - b * h < 0
  pn : 0 < a → b < 0 → b * x0 - a * y0 ≤ 0 ∧ 0 < b * x0 - a * y0 + a * h - b * h
  np : a < 0 → 0 < b → b * x0 - a * y0 + a * h - b * h < 0 ∧ 0 ≤ b * x0 - a * y0
  nn : a < 0 → b < 0 → 0 < b * x0 - a * y0 - b * h ∧ b * x0 - a * y0 + a * h < 0
/-- corners on both sides, and no axis parts them -/
structure TH (x0 y0 a b h : Int) : Prop where
  p : 0 < b * x0 - a * y0 ∨ 0 < b * x0 - a * y0 + a * h ∨ 0 < b * x0 - a * y0 - b * h ∨ 0 < b * x0 - a * y0 + a * h - b * h
  n : b * x0 - a * y0 < 0 ∨ b * x0 - a * y0 + a * h < 0 ∨ b * x0 - a * y0 - b * h < 0 ∨ b * x0 - a * y0 + a * h - b * h < 0
  x1 : ¬ (x0 ≤ 0 ∧ x0 + a ≤ 0)
  x2 : ¬ (h ≤ x0 ∧ h ≤ x0 + a)
  y1 : ¬ (y0 ≤ 0 ∧ y0 + b ≤ 0)
  y2 : ¬ (h ≤ y0 ∧ h ≤ y0 + b)
theorem pr_of {x0 y0 a b h : Int} (px : (a = 0 ∧ 0 ≤ x0 ∧ x0 < h) ∨ (0 < a ∧ 0 ≤ x0 + a ∧ x0 < h) ∨ (a < 0 ∧ x0 + a < h ∧ 0 ≤ x0)) (py : (b = 0 ∧ 0 ≤ y0 ∧ y0 < h) ∨ (0 < b ∧ 0 ≤ y0 + b ∧ y0 < h) ∨ (b < 0 ∧ y0 + b < h ∧ 0 ≤ y0))
    (hc : a ≠ 0 → b ≠ 0 → (0 < a → 0 < b → 0 < b * x0 - a * y0 + a * h ∧ b * x0 - a * y0 - b * h < 0) ∧ (0 < a → b < 0 → b * x0 - a * y0 ≤ 0 ∧ 0 < b * x0 - a * y0 + a * h - b * h) ∧ (a < 0 → 0 < b → b * x0 - a * y0 + a * h - b * h < 0 ∧ 0 ≤ b * x0 - a * y0) ∧ (a < 0 → b < 0 → 0 < b * x0 - a * y0 - b * h ∧ b * x0 - a * y0 + a * h < 0)) : PR x0 y0 a b h :=
  ⟨px, py, fun h1 h2 => (hc (by omega) (by omega)).1 h1 h2, fun h1 h2 => (hc (by omega) (by omega)).2.1 h1 h2, fun h1 h2 => (hc (by omega) (by omega)).2.2.1 h1 h2, fun h1 h2 => (hc (by omega) (by omega)).2.2.2 h1 h2⟩
/-- a factor's sign known, and that the other is not below 0, or above it -/
theorem m_pz {a y : Int} (ha : 0 < a) (hy : 0 ≤ y) : 0 ≤ a * y := Int.mul_nonneg (Int.le_of_lt ha) hy
theorem m_pp {a y : Int} (ha : 0 < a) (hy : 0 < y) : 0 < a * y := Int.mul_pos ha hy
theorem m_nz {a y : Int} (ha : a < 0) (hy : 0 ≤ y) : a * y ≤ 0 := Int.mul_nonpos_of_nonpos_of_nonneg (Int.le_of_lt ha) hy
theorem m_np {a y : Int} (ha : a < 0) (hy : 0 < y) : a * y < 0 := Int.mul_neg_of_neg_of_pos ha hy
theorem pr_in {x y a b h c d : Int} (h1 : 0 ≤ x) (h2 : 0 < h - x) (h3 : 0 ≤ y) (h4 : 0 < h - y) (e : c - d = b * x - a * y) :
    (0 < a → 0 < b → 0 < c - d + a * h ∧ c - d - b * h < 0) ∧ (0 < a → b < 0 → c - d ≤ 0 ∧ 0 < c - d + a * h - b * h) ∧ (a < 0 → 0 < b → c - d + a * h - b * h < 0 ∧ 0 ≤ c - d) ∧ (a < 0 → b < 0 → 0 < c - d - b * h ∧ c - d + a * h < 0) := by
  have s1 : b * (h - x) = b * h - b * x := Int.mul_sub ..
  have s2 : a * (h - y) = a * h - a * y := Int.mul_sub ..
  rw [e]
  refine ⟨fun ha hb => ?_, fun ha hb => ?_, fun ha hb => ?_, fun ha hb => ?_⟩
  · have p1 := m_pz hb h1
    have p2 := m_pz ha h3
    have p3 := m_pp hb h2
    have p4 := m_pp ha h4
    rw [s1] at p3
    rw [s2] at p4
    clear e s1 s2 h1 h2 h3 h4 ha hb
    generalize b * x = m1 at *
    generalize a * y = m2 at *
    generalize b * h = m3 at *
    generalize a * h = m4 at *
    omega
  · have p1 := m_nz hb h1
    have p2 := m_pz ha h3
    have p3 := m_np hb h2
    have p4 := m_pp ha h4
    rw [s1] at p3
    rw [s2] at p4
    clear e s1 s2 h1 h2 h3 h4 ha hb
    generalize b * x = m1 at *
    generalize a * y = m2 at *
    generalize b * h = m3 at *
    generalize a * h = m4 at *
    omega
  · have p1 := m_pz hb h1
    have p2 := m_nz ha h3
    have p3 := m_pp hb h2
    have p4 := m_np ha h4
    rw [s1] at p3
    rw [s2] at p4
    clear e s1 s2 h1 h2 h3 h4 ha hb
    generalize b * x = m1 at *
    generalize a * y = m2 at *
    generalize b * h = m3 at *
    generalize a * h = m4 at *
    omega
  · have p1 := m_nz hb h1
    have p2 := m_nz ha h3
    have p3 := m_np hb h2
    have p4 := m_np ha h4
    rw [s1] at p3
    rw [s2] at p4
    clear e s1 s2 h1 h2 h3 h4 ha hb
    generalize b * x = m1 at *
    generalize a * y = m2 at *
    generalize b * h = m3 at *
    generalize a * h = m4 at *
    omega
theorem pr_inP {x0 y0 a b h : Int} (h1 : 0 ≤ x0) (h2 : x0 < h) (h3 : 0 ≤ y0) (h4 : y0 < h) : PR x0 y0 a b h :=
  pr_of (by omega) (by omega) fun _ _ => pr_in h1 (by omega) h3 (by omega) rfl
theorem pr_inQ {x0 y0 a b h : Int} (h1 : 0 ≤ x0 + a) (h2 : x0 + a < h) (h3 : 0 ≤ y0 + b) (h4 : y0 + b < h) : PR x0 y0 a b h :=
  pr_of (by omega) (by omega) fun _ _ => pr_in h1 (by omega) h3 (by omega) (by grind)
theorem pr_th {x0 y0 a b h : Int} (hh : 0 < h) (t : TH x0 y0 a b h) : PR x0 y0 a b h := by
  obtain ⟨t1, t2, t3, t4, t5, t6⟩ := t
  refine pr_of (by clear t1 t2; omega) (by clear t1 t2; omega) fun _ _ => ?_
  clear t3 t4 t5 t6
  generalize b * x0 - a * y0 = E at *
  refine ⟨fun ha hb => ?_, fun ha hb => ?_, fun ha hb => ?_, fun ha hb => ?_⟩
  · have p1 := m_pp ha hh
    have p2 := m_pp hb hh
    clear ha hb hh
    generalize b * h = m3 at *
    generalize a * h = m4 at *
    omega
  · have p1 := m_pp ha hh
    have p2 := m_np hb hh
    clear ha hb hh
    generalize b * h = m3 at *
    generalize a * h = m4 at *
    omega
  · have p1 := m_np ha hh
    have p2 := m_pp hb hh
    clear ha hb hh
    generalize b * h = m3 at *
    generalize a * h = m4 at *
    omega
  · have p1 := m_np ha hh
    have p2 := m_np hb hh
    clear ha hb hh
    generalize b * h = m3 at *
    generalize a * h = m4 at *
    omega
end L2

set_option linter.all false
set_option maxHeartbeats 4000000
namespace L2
theorem pr_law {x0 y0 a b h : Int} (hh : 0 < h) (hn : ¬ (a = 0 ∧ b = 0)) (q : PR x0 y0 a b h) : (0 ≤ x0 ∧ x0 < h ∧ 0 ≤ y0 ∧ y0 < h) ∨ (0 ≤ x0 + a ∧ x0 + a < h ∧ 0 ≤ y0 + b ∧ y0 + b < h) ∨ BL x0 y0 a b h ∨ BB x0 y0 a b h ∨ TH x0 y0 a b h := by
  obtain ⟨px, py, pp, pn, np, nn⟩ := q
  rcases Int.lt_trichotomy a 0 with ha | ha | ha
  · rcases Int.lt_trichotomy b 0 with hb | hb | hb
    · obtain ⟨n1, n2⟩ := nn ha hb
      by_cases c1 : x0 = 0
      · subst c1
        have p := pm_neg (y := h - y0) ha
        rw [Int.mul_sub] at p
        rw [Int.mul_zero] at n2
        exact .inl (by generalize a * y0 = m1 at *; generalize a * h = m2 at *; (lia (splits := 80)))
      · by_cases c2 : y0 = 0
        · subst c2
          have p := pm_neg (y := h - x0) hb
          rw [Int.mul_sub] at p
          rw [Int.mul_zero] at n1
          exact .inl (by generalize b * x0 = m1 at *; generalize b * h = m2 at *; (lia (splits := 80)))
        · exact .inr (.inr (.inr (.inr ⟨.inr (.inr (.inl n1)), .inr (.inl n2), by (lia (splits := 80)), by (lia (splits := 80)), by (lia (splits := 80)), by (lia (splits := 80))⟩)))
    · subst hb
      by_cases c1 : y0 = 0
      · exact .inr (.inr (.inr (.inl (.inr (.inr ⟨rfl, c1, .inr ⟨ha, by (lia (splits := 80)), by (lia (splits := 80))⟩⟩)))))
      · have p := pm_neg (y := y0) ha
        have p' := pm_neg (y := h - y0) ha
        rw [Int.mul_sub] at p'
        by_cases c2 : x0 = 0
        · exact .inl (by (lia (splits := 80)))
        · refine .inr (.inr (.inr (.inr ⟨.inl ?_, .inr (.inl ?_), by (lia (splits := 80)), by (lia (splits := 80)), by (lia (splits := 80)), by (lia (splits := 80))⟩)))
          · rw [Int.zero_mul]; generalize a * y0 = m1 at *; (lia (splits := 80))
          · rw [Int.zero_mul]; generalize a * y0 = m1 at *; generalize a * h = m2 at *; (lia (splits := 80))
    · obtain ⟨n1, n2⟩ := np ha hb
      by_cases c0 : b * x0 - a * y0 = 0
      · refine .inr (.inr (.inl (.inr (.inl ⟨ha, by (lia (splits := 80)), ?_, by (lia (splits := 80)), ?_⟩))))
        · have p := pm_pos (y := x0 + a) hb
          have p' := pm_neg (y := y0 + b) ha
          rw [Int.mul_add] at p p'
          have e : b * a = a * b := Int.mul_comm _ _
          rw [e] at p
          generalize a * b = m5 at *
          generalize b * x0 = m1 at *
          generalize a * y0 = m2 at *
          (lia (splits := 80))
        · have p := pm_neg (y := h) ha
          (lia (splits := 80))
      · by_cases c1 : x0 = 0
        · subst c1
          have p := pm_neg (y := y0) ha
          rw [Int.mul_zero] at n2 c0
          exact .inl (by generalize a * y0 = m1 at *; (lia (splits := 80)))
        · by_cases c2 : y0 + b = 0
          · have e : y0 = -b := by (lia (splits := 80))
            subst e
            have p := pm_pos (y := x0 + a) hb
            rw [Int.mul_add] at p
            have e2 : a * -b = -(b * a) := by grind
            rw [e2] at n2 c0
            exact .inr (.inl (by generalize b * a = m1 at *; generalize b * x0 = m2 at *; (lia (splits := 80))))
          · exact .inr (.inr (.inr (.inr ⟨.inl (by (lia (splits := 80))), .inr (.inr (.inr n1)), by (lia (splits := 80)), by (lia (splits := 80)), by (lia (splits := 80)), by (lia (splits := 80))⟩)))
  · subst ha
    have hb : b ≠ 0 := fun e => hn ⟨rfl, e⟩
    by_cases c1 : x0 = 0
    · exact .inr (.inr (.inl (.inr (.inr ⟨rfl, c1, by (lia (splits := 80))⟩))))
    · rcases Int.lt_trichotomy b 0 with hb' | hb' | hb'
      · have p := pm_neg (y := x0) hb'
        have p' := pm_neg (y := h - x0) hb'
        rw [Int.mul_sub] at p'
        by_cases c2 : y0 = 0
        · exact .inl (by (lia (splits := 80)))
        · refine .inr (.inr (.inr (.inr ⟨.inr (.inr (.inl ?_)), .inl ?_, by (lia (splits := 80)), by (lia (splits := 80)), by (lia (splits := 80)), by (lia (splits := 80))⟩)))
          · rw [Int.zero_mul]; generalize b * x0 = m1 at *; generalize b * h = m2 at *; (lia (splits := 80))
          · rw [Int.zero_mul]; generalize b * x0 = m1 at *; (lia (splits := 80))
      · exact absurd hb' hb
      · have p := pm_pos (y := x0) hb'
        have p' := pm_pos (y := h - x0) hb'
        rw [Int.mul_sub] at p'
        by_cases c2 : y0 + b = 0
        · exact .inr (.inl (by (lia (splits := 80))))
        · refine .inr (.inr (.inr (.inr ⟨.inl ?_, .inr (.inr (.inl ?_)), by (lia (splits := 80)), by (lia (splits := 80)), by (lia (splits := 80)), by (lia (splits := 80))⟩)))
          · rw [Int.zero_mul]; generalize b * x0 = m1 at *; (lia (splits := 80))
          · rw [Int.zero_mul]; generalize b * x0 = m1 at *; generalize b * h = m2 at *; (lia (splits := 80))
  · rcases Int.lt_trichotomy b 0 with hb | hb | hb
    · obtain ⟨n1, n2⟩ := pn ha hb
      by_cases c0 : b * x0 - a * y0 = 0
      · refine .inr (.inr (.inl (.inl ⟨ha, ?_, by (lia (splits := 80)), by (lia (splits := 80)), ?_⟩)))
        · have p := pm_neg (y := x0) hb
          have p' := pm_pos (y := y0) ha
          generalize b * x0 = m1 at *
          generalize a * y0 = m2 at *
          (lia (splits := 80))
        · have p := pm_pos (y := h) ha
          (lia (splits := 80))
      · by_cases c1 : x0 + a = 0
        · have e : x0 = -a := by (lia (splits := 80))
          subst e
          have p := pm_pos (y := y0 + b) ha
          rw [Int.mul_add] at p
          have e2 : b * -a = -(a * b) := by grind
          rw [e2] at n1 c0
          exact .inr (.inl (by generalize a * b = m1 at *; generalize a * y0 = m2 at *; (lia (splits := 80))))
        · by_cases c2 : y0 = 0
          · subst c2
            have p := pm_neg (y := x0) hb
            rw [Int.mul_zero] at n1 c0
            exact .inl (by generalize b * x0 = m1 at *; (lia (splits := 80)))
          · exact .inr (.inr (.inr (.inr ⟨.inr (.inr (.inr n2)), .inl (by (lia (splits := 80))), by (lia (splits := 80)), by (lia (splits := 80)), by (lia (splits := 80)), by (lia (splits := 80))⟩)))
    · subst hb
      by_cases c1 : y0 = 0
      · exact .inr (.inr (.inr (.inl (.inr (.inr ⟨rfl, c1, .inl ⟨ha, by (lia (splits := 80)), by (lia (splits := 80))⟩⟩)))))
      · have p := pm_pos (y := y0) ha
        have p' := pm_pos (y := h - y0) ha
        rw [Int.mul_sub] at p'
        by_cases c2 : x0 + a = 0
        · exact .inr (.inl (by (lia (splits := 80))))
        · refine .inr (.inr (.inr (.inr ⟨.inr (.inl ?_), .inl ?_, by (lia (splits := 80)), by (lia (splits := 80)), by (lia (splits := 80)), by (lia (splits := 80))⟩)))
          · rw [Int.zero_mul]; generalize a * y0 = m1 at *; generalize a * h = m2 at *; (lia (splits := 80))
          · rw [Int.zero_mul]; generalize a * y0 = m1 at *; (lia (splits := 80))
    · obtain ⟨n1, n2⟩ := pp ha hb
      by_cases c1 : x0 + a = 0
      · have e : x0 = -a := by (lia (splits := 80))
        subst e
        have p := pm_pos (y := h - (y0 + b)) ha
        rw [Int.mul_sub, Int.mul_add] at p
        have e2 : b * -a = -(a * b) := by grind
        rw [e2] at n1
        exact .inr (.inl (by generalize a * b = m1 at *; generalize a * y0 = m2 at *; generalize a * h = m3 at *; (lia (splits := 80))))
      · by_cases c2 : y0 + b = 0
        · have e : y0 = -b := by (lia (splits := 80))
          subst e
          have p := pm_pos (y := h - (x0 + a)) hb
          rw [Int.mul_sub, Int.mul_add] at p
          have e2 : a * -b = -(b * a) := by grind
          rw [e2] at n2
          exact .inr (.inl (by generalize b * a = m1 at *; generalize b * x0 = m2 at *; generalize b * h = m3 at *; (lia (splits := 80))))
        · exact .inr (.inr (.inr (.inr ⟨.inr (.inl n1), .inr (.inr (.inl n2)), by (lia (splits := 80)), by (lia (splits := 80)), by (lia (splits := 80)), by (lia (splits := 80))⟩)))
end L2

set_option linter.all false
set_option maxHeartbeats 4000000
namespace L2
theorem pr_bl {x0 y0 a b h : Int} (hh : 0 < h) (t : BL x0 y0 a b h) : PR x0 y0 a b h := by
  have e5 : b * a = a * b := Int.mul_comm _ _
  rcases t with ⟨ha, c1, c2, c3, c4⟩ | ⟨ha, c1, c2, c3, c4⟩ | ⟨rfl, rfl, c⟩
  · refine pr_of (by (lia (splits := 80))) ?_ fun _ _ => ?_
    · rcases Int.lt_trichotomy b 0 with hb | hb | hb
      · have p1 := pm_neg (y := x0) hb
        have p2 := pm_pos (y := y0) ha
        have p3 := pm_neg (y := x0 + a) hb
        have p4 := pm_pos (y := h - (y0 + b)) ha
        rw [Int.mul_add, e5] at p3
        rw [Int.mul_sub, Int.mul_add] at p4
        generalize a * b = m5 at *
        generalize b * x0 = m1 at *
        generalize a * y0 = m2 at *
        generalize a * h = m3 at *
        (lia (splits := 80))
      · subst hb
        rw [Int.zero_mul] at c3 c4
        have p2 := pm_pos (y := y0) ha
        have p4 := pm_pos (y := h - y0) ha
        rw [Int.mul_sub] at p4
        generalize a * y0 = m2 at *
        generalize a * h = m3 at *
        (lia (splits := 80))
      · have p1 := pm_pos (y := x0) hb
        have p2 := pm_pos (y := y0 + b) ha
        have p3 := pm_pos (y := x0 + a) hb
        have p4 := pm_pos (y := h - y0) ha
        rw [Int.mul_add, e5] at p3
        rw [Int.mul_add] at p2
        rw [Int.mul_sub] at p4
        generalize a * b = m5 at *
        generalize b * x0 = m1 at *
        generalize a * y0 = m2 at *
        generalize a * h = m3 at *
        (lia (splits := 80))
    · have p := psgn b h
      generalize b * x0 - a * y0 = E at *
      generalize b * h = m3 at *
      generalize a * h = m4 at *
      refine ⟨fun _ _ => ?_, fun _ _ => ?_, fun _ _ => ?_, fun _ _ => ?_⟩ <;> (lia (splits := 80))
  · refine pr_of (by (lia (splits := 80))) ?_ fun _ _ => ?_
    · rcases Int.lt_trichotomy b 0 with hb | hb | hb
      · have p1 := pm_neg (y := x0) hb
        have p2 := pm_neg (y := y0) ha
        have p3 := pm_neg (y := x0 + a) hb
        have p4 := pm_neg (y := h - (y0 + b)) ha
        have p6 := pm_neg (y := y0 + b) ha
        have p7 := pm_neg (y := h - y0) ha
        rw [Int.mul_add, e5] at p3
        rw [Int.mul_add] at p6
        rw [Int.mul_sub, Int.mul_add] at p4
        rw [Int.mul_sub] at p7
        generalize a * b = m5 at *
        generalize b * x0 = m1 at *
        generalize a * y0 = m2 at *
        generalize a * h = m3 at *
        (lia (splits := 80))
      · subst hb
        rw [Int.zero_mul] at c3 c4
        have p2 := pm_neg (y := y0) ha
        have p4 := pm_neg (y := h - y0) ha
        rw [Int.mul_sub] at p4
        generalize a * y0 = m2 at *
        generalize a * h = m3 at *
        (lia (splits := 80))
      · have p1 := pm_pos (y := x0) hb
        have p2 := pm_neg (y := y0 + b) ha
        have p3 := pm_pos (y := x0 + a) hb
        have p4 := pm_neg (y := h - y0) ha
        rw [Int.mul_add, e5] at p3
        rw [Int.mul_add] at p2
        rw [Int.mul_sub] at p4
        generalize a * b = m5 at *
        generalize b * x0 = m1 at *
        generalize a * y0 = m2 at *
        generalize a * h = m3 at *
        (lia (splits := 80))
    · have p := psgn b h
      generalize b * x0 - a * y0 = E at *
      generalize b * h = m3 at *
      generalize a * h = m4 at *
      refine ⟨fun _ _ => ?_, fun _ _ => ?_, fun _ _ => ?_, fun _ _ => ?_⟩ <;> (lia (splits := 80))
  · exact pr_of (by (lia (splits := 80))) (by (lia (splits := 80))) fun z => absurd rfl z
theorem pr_bb {x0 y0 a b h : Int} (hh : 0 < h) (t : BB x0 y0 a b h) : PR x0 y0 a b h := by
  have e5 : b * a = a * b := Int.mul_comm _ _
  rcases t with ⟨hb, c1, c2, c3, c4⟩ | ⟨hb, c1, c2, c3, c4⟩ | ⟨rfl, rfl, c⟩
  · refine pr_of ?_ (by (lia (splits := 80))) fun _ _ => ?_
    · rcases Int.lt_trichotomy a 0 with ha | ha | ha
      · have p1 := pm_neg (y := y0) ha
        have p2 := pm_pos (y := x0) hb
        have p3 := pm_neg (y := y0 + b) ha
        have p4 := pm_pos (y := h - (x0 + a)) hb
        rw [Int.mul_add] at p3
        rw [Int.mul_sub, Int.mul_add, e5] at p4
        generalize a * b = m5 at *
        generalize b * x0 = m1 at *
        generalize a * y0 = m2 at *
        generalize b * h = m3 at *
        (lia (splits := 80))
      · subst ha
        rw [Int.zero_mul] at c3 c4
        have p2 := pm_pos (y := x0) hb
        have p4 := pm_pos (y := h - x0) hb
        rw [Int.mul_sub] at p4
        generalize b * x0 = m2 at *
        generalize b * h = m3 at *
        (lia (splits := 80))
      · have p1 := pm_pos (y := y0) ha
        have p2 := pm_pos (y := x0 + a) hb
        have p3 := pm_pos (y := y0 + b) ha
        have p4 := pm_pos (y := h - x0) hb
        rw [Int.mul_add] at p3
        rw [Int.mul_add, e5] at p2
        rw [Int.mul_sub] at p4
        generalize a * b = m5 at *
        generalize b * x0 = m1 at *
        generalize a * y0 = m2 at *
        generalize b * h = m3 at *
        (lia (splits := 80))
    · have p := psgn a h
      generalize b * x0 - a * y0 = E at *
      generalize b * h = m3 at *
      generalize a * h = m4 at *
      refine ⟨fun _ _ => ?_, fun _ _ => ?_, fun _ _ => ?_, fun _ _ => ?_⟩ <;> (lia (splits := 80))
  · refine pr_of ?_ (by (lia (splits := 80))) fun _ _ => ?_
    · rcases Int.lt_trichotomy a 0 with ha | ha | ha
      · have p1 := pm_neg (y := y0) ha
        have p2 := pm_neg (y := x0) hb
        have p3 := pm_neg (y := y0 + b) ha
        have p4 := pm_neg (y := h - (x0 + a)) hb
        have p6 := pm_neg (y := x0 + a) hb
        have p7 := pm_neg (y := h - x0) hb
        rw [Int.mul_add] at p3
        rw [Int.mul_add, e5] at p6
        rw [Int.mul_sub, Int.mul_add, e5] at p4
        rw [Int.mul_sub] at p7
        generalize a * b = m5 at *
        generalize b * x0 = m1 at *
        generalize a * y0 = m2 at *
        generalize b * h = m3 at *
        (lia (splits := 80))
      · subst ha
        rw [Int.zero_mul] at c3 c4
        have p2 := pm_neg (y := x0) hb
        have p4 := pm_neg (y := h - x0) hb
        rw [Int.mul_sub] at p4
        generalize b * x0 = m2 at *
        generalize b * h = m3 at *
        (lia (splits := 80))
      · have p1 := pm_pos (y := y0) ha
        have p2 := pm_neg (y := x0 + a) hb
        have p3 := pm_pos (y := y0 + b) ha
        have p4 := pm_neg (y := h - x0) hb
        rw [Int.mul_add] at p3
        rw [Int.mul_add, e5] at p2
        rw [Int.mul_sub] at p4
        generalize a * b = m5 at *
        generalize b * x0 = m1 at *
        generalize a * y0 = m2 at *
        generalize b * h = m3 at *
        (lia (splits := 80))
    · have p := psgn a h
      generalize b * x0 - a * y0 = E at *
      generalize b * h = m3 at *
      generalize a * h = m4 at *
      refine ⟨fun _ _ => ?_, fun _ _ => ?_, fun _ _ => ?_, fun _ _ => ?_⟩ <;> (lia (splits := 80))
  · exact pr_of (by (lia (splits := 80))) (by (lia (splits := 80))) fun _ z => absurd rfl z
/-- law and program, in the plane -/
theorem plane_cell {x0 y0 a b h : Int} (hh : 0 < h) (hn : ¬ (a = 0 ∧ b = 0)) : ((0 ≤ x0 ∧ x0 < h ∧ 0 ≤ y0 ∧ y0 < h) ∨ (0 ≤ x0 + a ∧ x0 + a < h ∧ 0 ≤ y0 + b ∧ y0 + b < h) ∨ BL x0 y0 a b h ∨ BB x0 y0 a b h ∨ TH x0 y0 a b h) ↔ PR x0 y0 a b h := by
  constructor
  · rintro (⟨c1, c2, c3, c4⟩ | ⟨c1, c2, c3, c4⟩ | c | c | c)
    · exact pr_inP c1 c2 c3 c4
    · exact pr_inQ c1 c2 c3 c4
    · exact pr_bl hh c
    · exact pr_bb hh c
    · exact pr_th hh c
  · exact pr_law hh hn
end L2

set_option linter.all false
set_option maxHeartbeats 4000000
namespace L2
/-- a point at (x, y) of the plane that the cell gives -/
structure Ch (s k l M : Int) (p : Pt3) (x y : Int) : Prop where
  x : x * p.z = M * (s * p.x - k * p.z)
  y : y * p.z = M * (s * p.y - l * p.z)
section
variable {s k l M : Int} {p q r : Pt3} {x0 y0 x1 y1 x2 y2 : Int}
theorem Ch.dx (h0 : Ch s k l M p x0 y0) (h1 : Ch s k l M q x1 y1) : (p.z * q.z) * (x1 - x0) = (M * s) * (q.x * p.z - p.x * q.z) := by
  have e0 := h0.x
  have e1 := h1.x
  have f1 : (p.z * q.z) * (x1 - x0) = p.z * (x1 * q.z) - q.z * (x0 * p.z) := by grind
  rw [f1, e0, e1]
  grind
theorem Ch.dy (h0 : Ch s k l M p x0 y0) (h1 : Ch s k l M q x1 y1) : (p.z * q.z) * (y1 - y0) = (M * s) * (q.y * p.z - p.y * q.z) := by
  have e0 := h0.y
  have e1 := h1.y
  have f1 : (p.z * q.z) * (y1 - y0) = p.z * (y1 * q.z) - q.z * (y0 * p.z) := by grind
  rw [f1, e0, e1]
  grind
theorem ch_ahd (hs : 0 < s) (hM : 0 < M) (hp : 0 < p.z) (hq : 0 < q.z) (h0 : Ch s k l M p x0 y0) (h1 : Ch s k l M q x1 y1) : ahd p q = lex (x1 - x0) (y1 - y0) := by
  rw [ahd_lex, ← lex_pos (Int.mul_pos hM hs), ← h0.dx h1, ← h0.dy h1, lex_pos (Int.mul_pos hp hq)]
theorem ch_det (hs : 0 < s) (hM : 0 < M) (hp : 0 < p.z) (hq : 0 < q.z) (hr : 0 < r.z) (h0 : Ch s k l M p x0 y0) (h1 : Ch s k l M q x1 y1) (h2 : Ch s k l M r x2 y2) : sgn (det p q r) = sgn (dP2 x0 y0 x1 y1 x2 y2) := by
  have a1 := h0.dx h1
  have a2 := h0.dy h2
  have a3 := h0.dy h1
  have a4 := h0.dx h2
  have t := det_turn p q r
  have e : (p.z * q.z) * (p.z * r.z) * dP2 x0 y0 x1 y1 x2 y2 = (M * s) * (M * s) * (p.z * det p q r) := by
    rw [← t]
    have f : (p.z * q.z) * (p.z * r.z) * dP2 x0 y0 x1 y1 x2 y2 = ((p.z * q.z) * (x1 - x0)) * ((p.z * r.z) * (y2 - y0)) - ((p.z * q.z) * (y1 - y0)) * ((p.z * r.z) * (x2 - x0)) := by unfold dP2; grind
    rw [f, a1, a2, a3, a4]
    grind
  have c1 : 0 < (p.z * q.z) * (p.z * r.z) := Int.mul_pos (Int.mul_pos hp hq) (Int.mul_pos hp hr)
  have c2 : 0 < (M * s) * (M * s) := Int.mul_pos (Int.mul_pos hM hs) (Int.mul_pos hM hs)
  have g1 := sgn_scale (x := dP2 x0 y0 x1 y1 x2 y2) c1
  rw [e, sgn_scale c2, sgn_scale hp] at g1
  exact g1
theorem ch_onB (hs : 0 < s) (hM : 0 < M) (hp : 0 < p.z) (hq : 0 < q.z) (hr : 0 < r.z) (h0 : Ch s k l M p x0 y0) (h1 : Ch s k l M q x1 y1) (h2 : Ch s k l M r x2 y2) : onB r p q = onP x2 y2 x0 y0 x1 y1 := by
  have e := ch_det hs hM hp hq hr h0 h1 h2
  have z : det p q r = 0 ↔ dP2 x0 y0 x1 y1 x2 y2 = 0 := ⟨fun h => sgn_eq0.mp (e ▸ sgn_eq0.mpr h), fun h => sgn_eq0.mp (e.symm ▸ sgn_eq0.mpr h)⟩
  unfold onB onP
  rw [ch_ahd hs hM hp hq h0 h1, ch_ahd hs hM hr hp h2 h0, ch_ahd hs hM hq hr h1 h2, ch_ahd hs hM hr hq h2 h1, ch_ahd hs hM hp hr h0 h2]
  by_cases g : det p q r = 0
  · rw [if_pos g, if_pos (z.mp g)]
  · rw [if_neg g, if_neg (fun h => g (z.mpr h))]
theorem ch_touch {u : Pt3} {x3 y3 : Int} (hs : 0 < s) (hM : 0 < M) (hp : 0 < p.z) (hq : 0 < q.z) (hr : 0 < r.z) (hu : 0 < u.z) (h0 : Ch s k l M p x0 y0) (h1 : Ch s k l M q x1 y1) (h2 : Ch s k l M r x2 y2) (h3 : Ch s k l M u x3 y3) : touchB p q r u = touchP x0 y0 x1 y1 x2 y2 x3 y3 := by
  unfold touchB touchP
  rw [ch_onB hs hM hr hu hp h2 h3 h0, ch_onB hs hM hr hu hq h2 h3 h1, ch_onB hs hM hp hq hr h0 h1 h2, ch_onB hs hM hp hq hu h0 h1 h3, ch_det hs hM hp hq hr h0 h1 h2, ch_det hs hM hp hq hu h0 h1 h3, ch_det hs hM hr hu hp h2 h3 h0, ch_det hs hM hr hu hq h2 h3 h1]
/-- a side's ends and the cell's corners -/
theorem ch_left (s k l : Int) (p q : Pt3) : Ch s k l (p.z * q.z) p ((s * p.x - k * p.z) * q.z) ((s * p.y - l * p.z) * q.z) := ⟨by grind, by grind⟩
theorem ch_right (s k l : Int) (p q : Pt3) : Ch s k l (p.z * q.z) q ((s * q.x - k * q.z) * p.z) ((s * q.y - l * q.z) * p.z) := ⟨by grind, by grind⟩
theorem ch_corner {c : Pt3} {s0 i j g f : Int} (hs : 0 < s) (ic : Is3 ((2 * i - 1 + 2 * g) * s0) ((2 * j - 1 + 2 * f) * s0) s c) : Ch s ((2 * i - 1) * s0) ((2 * j - 1) * s0) M c (g * (2 * s0 * M)) (f * (2 * s0 * M)) := by
  obtain ⟨d, d0, e1, e2, e3⟩ := ic.ex
  have hd : d ≠ 0 := by omega
  constructor
  · refine Int.eq_of_mul_eq_mul_left hd ?_
    have f1 : d * (g * (2 * s0 * M) * c.z) = g * (2 * s0 * M) * (d * c.z) := by grind
    have f2 : d * (M * (s * c.x - (2 * i - 1) * s0 * c.z)) = M * (s * (d * c.x) - (2 * i - 1) * s0 * (d * c.z)) := by grind
    rw [f1, f2, ← e1, ← e3]
    grind
  · refine Int.eq_of_mul_eq_mul_left hd ?_
    have f1 : d * (f * (2 * s0 * M) * c.z) = f * (2 * s0 * M) * (d * c.z) := by grind
    have f2 : d * (M * (s * c.y - (2 * j - 1) * s0 * c.z)) = M * (s * (d * c.y) - (2 * j - 1) * s0 * (d * c.z)) := by grind
    rw [f1, f2, ← e2, ← e3]
    grind
end
end L2

set_option linter.all false
set_option maxHeartbeats 4000000
namespace L2
def le2 (p q : Int × Int) : Prop := p.1 < q.1 ∨ (p.1 = q.1 ∧ p.2 ≤ q.2)
/-- the program's span on an axis: a the way, u = -low, B the scale, L the length -/
def spn (a u h B L : Int) : (Int × Int) × (Int × Int) :=
  if a = 0 then (if -u ≤ 0 ∧ 0 < h - u then ((0, 0), (L, 0)) else ((0, 0), (0, -1))) else if 0 < a then ((-u * B, 0), ((h - u) * B, -1)) else ((-(h - u) * B, 1), (- -u * B, 0))
def AllLe (x y : (Int × Int) × (Int × Int)) (L : Int) : Prop := le2 (0, 0) x.2 ∧ le2 (0, 0) y.2 ∧ le2 x.1 (L, 0) ∧ le2 y.1 (L, 0) ∧ le2 x.1 x.2 ∧ le2 y.1 y.2 ∧ le2 x.1 y.2 ∧ le2 y.1 x.2
theorem spn_pp {x0 y0 a b h : Int} (hh : 0 < h) (ha : 0 < a) (hb : 0 < b) : AllLe (spn a x0 h b (a * b)) (spn b y0 h a (a * b)) (a * b) ↔ PR x0 y0 a b h := by
  have e1 : spn a x0 h b (a * b) = ((-x0 * b, 0), ((h - x0) * b, -1)) := by unfold spn; rw [if_neg (by (lia (splits := 80))), if_pos ha]
  have e2 : spn b y0 h a (a * b) = ((-y0 * a, 0), ((h - y0) * a, -1)) := by unfold spn; rw [if_neg (by (lia (splits := 80))), if_pos hb]
  have f1 : -x0 * b = -(b * x0) := by grind
  have f2 : -y0 * a = -(a * y0) := by grind
  have f3 : (h - x0) * b = b * h - b * x0 := by grind
  have f4 : (h - y0) * a = a * h - a * y0 := by grind
  have p1 := pm_pos (y := x0 + a) hb
  have p2 := pm_pos (y := y0 + b) ha
  have p3 := pm_pos (y := h - x0) hb
  have p4 := pm_pos (y := h - y0) ha
  have p5 := pm_pos (y := h) ha
  have p6 := pm_pos (y := h) hb
  have p7 := pm_pos (y := b) ha
  have e5 : b * a = a * b := Int.mul_comm _ _
  rw [Int.mul_add, e5] at p1
  rw [Int.mul_add] at p2
  rw [Int.mul_sub] at p3 p4
  rw [e1, e2, f1, f2, f3, f4]
  unfold AllLe le2
  simp only []
  constructor
  · intro H
    refine ⟨?_, ?_, fun _ _ => ?_, fun _ _ => ?_, fun _ _ => ?_, fun _ _ => ?_⟩ <;> generalize a * b = m5 at * <;> generalize b * x0 = m1 at * <;> generalize a * y0 = m2 at * <;> generalize a * h = m3 at * <;> generalize b * h = m4 at * <;> (lia (splits := 80))
  · rintro ⟨px, py, pp, _, _, _⟩
    have pp := pp ha hb
    generalize a * b = m5 at *
    generalize b * x0 = m1 at *
    generalize a * y0 = m2 at *
    generalize a * h = m3 at *
    generalize b * h = m4 at *
    (lia (splits := 80))
end L2

set_option linter.all false
set_option maxHeartbeats 4000000
namespace L2
theorem spn_pn {x0 y0 a b h : Int} (hh : 0 < h) (ha : 0 < a) (hb : b < 0) : AllLe (spn a x0 h (-b) (a * -b)) (spn b y0 h (a) (a * -b)) (a * -b) ↔ PR x0 y0 a b h := by
  have e1 : spn a x0 h (-b) (a * -b) = ((-x0 * -b, 0), ((h - x0) * -b, -1)) := by unfold spn; rw [if_neg (by (lia (splits := 80))), if_pos ha]
  have e2 : spn b y0 h (a) (a * -b) = ((-(h - y0) * a, 1), (- -y0 * a, 0)) := by unfold spn; rw [if_neg (by (lia (splits := 80))), if_neg (by (lia (splits := 80)))]
  have f0 : -x0 * -b = b * x0 := by grind
  have f1 : (h - x0) * -b = b * x0 - b * h := by grind
  have f2 : -(h - y0) * a = a * y0 - a * h := by grind
  have f3 : - -y0 * a = a * y0 := by grind
  have f4 : a * -b = -(a * b) := by grind
  have p0 := pm_neg (y := x0) hb
  have q0 := pm_pos (y := y0) ha
  have p1 := pm_neg (y := x0 + a) hb
  have p2 := pm_pos (y := y0 + b) ha
  have p3 := pm_neg (y := h - x0) hb
  have p4 := pm_pos (y := h - y0) ha
  have p5 := pm_pos (y := h) ha
  have p6 := pm_neg (y := h) hb
  have p7 := pm_pos (y := b) ha
  have p8 := pm_neg (y := h - (x0 + a)) hb
  have p9 := pm_pos (y := h - (y0 + b)) ha
  have e5 : b * a = a * b := Int.mul_comm _ _
  rw [Int.mul_add, e5] at p1
  rw [Int.mul_add] at p2
  rw [Int.mul_sub] at p3 p4
  rw [Int.mul_sub, Int.mul_add, e5] at p8
  rw [Int.mul_sub, Int.mul_add] at p9
  rw [e1, e2, f0, f1, f2, f3, f4]
  unfold AllLe le2
  simp only []
  clear f0 f1 f2 f3 f4 e1 e2 e5 p0 q0
  clear p8
  clear p2
  have p4 := pm_pos (y := y0) ha
  constructor
  · intro H
    refine ⟨?_, ?_, fun _ _ => ?_, fun _ _ => ?_, fun _ _ => ?_, fun _ _ => ?_⟩ <;> generalize a * b = m5 at * <;> generalize b * x0 = m1 at * <;> generalize a * y0 = m2 at * <;> generalize a * h = m3 at * <;> generalize b * h = m4 at * <;> (lia (splits := 80))
  · rintro ⟨px, py, pp, pn, np, nn⟩
    have cc := pn ha hb
    clear pp pn np nn
    generalize a * b = m5 at *
    generalize b * x0 = m1 at *
    generalize a * y0 = m2 at *
    generalize a * h = m3 at *
    generalize b * h = m4 at *
    (lia (splits := 80))
theorem spn_np {x0 y0 a b h : Int} (hh : 0 < h) (ha : a < 0) (hb : 0 < b) : AllLe (spn a x0 h (b) (-a * b)) (spn b y0 h (-a) (-a * b)) (-a * b) ↔ PR x0 y0 a b h := by
  have e1 : spn a x0 h (b) (-a * b) = ((-(h - x0) * b, 1), (- -x0 * b, 0)) := by unfold spn; rw [if_neg (by (lia (splits := 80))), if_neg (by (lia (splits := 80)))]
  have e2 : spn b y0 h (-a) (-a * b) = ((-y0 * -a, 0), ((h - y0) * -a, -1)) := by unfold spn; rw [if_neg (by (lia (splits := 80))), if_pos hb]
  have f0 : -(h - x0) * b = b * x0 - b * h := by grind
  have f1 : - -x0 * b = b * x0 := by grind
  have f2 : -y0 * -a = a * y0 := by grind
  have f3 : (h - y0) * -a = a * y0 - a * h := by grind
  have f4 : -a * b = -(a * b) := by grind
  have p0 := pm_pos (y := x0) hb
  have q0 := pm_neg (y := y0) ha
  have p1 := pm_pos (y := x0 + a) hb
  have p2 := pm_neg (y := y0 + b) ha
  have p3 := pm_pos (y := h - x0) hb
  have p4 := pm_neg (y := h - y0) ha
  have p5 := pm_neg (y := h) ha
  have p6 := pm_pos (y := h) hb
  have p7 := pm_neg (y := b) ha
  have p8 := pm_pos (y := h - (x0 + a)) hb
  have p9 := pm_neg (y := h - (y0 + b)) ha
  have e5 : b * a = a * b := Int.mul_comm _ _
  rw [Int.mul_add, e5] at p1
  rw [Int.mul_add] at p2
  rw [Int.mul_sub] at p3 p4
  rw [Int.mul_sub, Int.mul_add, e5] at p8
  rw [Int.mul_sub, Int.mul_add] at p9
  rw [e1, e2, f0, f1, f2, f3, f4]
  unfold AllLe le2
  simp only []
  clear f0 f1 f2 f3 f4 e1 e2 e5 p0 q0
  clear p1
  clear p9
  have p3 := pm_pos (y := x0) hb
  constructor
  · intro H
    refine ⟨?_, ?_, fun _ _ => ?_, fun _ _ => ?_, fun _ _ => ?_, fun _ _ => ?_⟩ <;> generalize a * b = m5 at * <;> generalize b * x0 = m1 at * <;> generalize a * y0 = m2 at * <;> generalize a * h = m3 at * <;> generalize b * h = m4 at * <;> (lia (splits := 80))
  · rintro ⟨px, py, pp, pn, np, nn⟩
    have cc := np ha hb
    clear pp pn np nn
    generalize a * b = m5 at *
    generalize b * x0 = m1 at *
    generalize a * y0 = m2 at *
    generalize a * h = m3 at *
    generalize b * h = m4 at *
    (lia (splits := 80))
theorem spn_nn {x0 y0 a b h : Int} (hh : 0 < h) (ha : a < 0) (hb : b < 0) : AllLe (spn a x0 h (-b) (-a * -b)) (spn b y0 h (-a) (-a * -b)) (-a * -b) ↔ PR x0 y0 a b h := by
  have e1 : spn a x0 h (-b) (-a * -b) = ((-(h - x0) * -b, 1), (- -x0 * -b, 0)) := by unfold spn; rw [if_neg (by (lia (splits := 80))), if_neg (by (lia (splits := 80)))]
  have e2 : spn b y0 h (-a) (-a * -b) = ((-(h - y0) * -a, 1), (- -y0 * -a, 0)) := by unfold spn; rw [if_neg (by (lia (splits := 80))), if_neg (by (lia (splits := 80)))]
  have f0 : -(h - x0) * -b = b * h - b * x0 := by grind
  have f1 : - -x0 * -b = -(b * x0) := by grind
  have f2 : -(h - y0) * -a = a * h - a * y0 := by grind
  have f3 : - -y0 * -a = -(a * y0) := by grind
  have f4 : -a * -b = a * b := by grind
  have p0 := pm_neg (y := x0) hb
  have q0 := pm_neg (y := y0) ha
  have p1 := pm_neg (y := x0 + a) hb
  have p2 := pm_neg (y := y0 + b) ha
  have p3 := pm_neg (y := h - x0) hb
  have p4 := pm_neg (y := h - y0) ha
  have p5 := pm_neg (y := h) ha
  have p6 := pm_neg (y := h) hb
  have p7 := pm_neg (y := b) ha
  have p8 := pm_neg (y := h - (x0 + a)) hb
  have p9 := pm_neg (y := h - (y0 + b)) ha
  have e5 : b * a = a * b := Int.mul_comm _ _
  rw [Int.mul_add, e5] at p1
  rw [Int.mul_add] at p2
  rw [Int.mul_sub] at p3 p4
  rw [Int.mul_sub, Int.mul_add, e5] at p8
  rw [Int.mul_sub, Int.mul_add] at p9
  rw [e1, e2, f0, f1, f2, f3, f4]
  unfold AllLe le2
  simp only []
  clear f0 f1 f2 f3 f4 e1 e2 e5 p0 q0
  clear p1
  clear p2
  have p3 := pm_neg (y := x0) hb
  have p4 := pm_neg (y := y0) ha
  constructor
  · intro H
    refine ⟨?_, ?_, fun _ _ => ?_, fun _ _ => ?_, fun _ _ => ?_, fun _ _ => ?_⟩ <;> generalize a * b = m5 at * <;> generalize b * x0 = m1 at * <;> generalize a * y0 = m2 at * <;> generalize a * h = m3 at * <;> generalize b * h = m4 at * <;> (lia (splits := 80))
  · rintro ⟨px, py, pp, pn, np, nn⟩
    have cc := nn ha hb
    clear pp pn np nn
    generalize a * b = m5 at *
    generalize b * x0 = m1 at *
    generalize a * y0 = m2 at *
    generalize a * h = m3 at *
    generalize b * h = m4 at *
    (lia (splits := 80))
end L2

set_option linter.all false
set_option maxHeartbeats 4000000
namespace L2
theorem spn_z {u h B L : Int} : spn 0 u h B L = (if -u ≤ 0 ∧ 0 < h - u then ((0, 0), (L, 0)) else ((0, 0), (0, -1))) := by
  unfold spn; rw [if_pos rfl]
theorem spn_p {a u h L : Int} (ha : 0 < a) : spn a u h 1 L = ((-u, 0), (h - u, -1)) := by
  unfold spn; rw [if_neg (by (lia (splits := 80))), if_pos ha, Int.mul_one, Int.mul_one]
theorem spn_n {a u h L : Int} (ha : a < 0) : spn a u h 1 L = ((-(h - u), 1), (- -u, 0)) := by
  unfold spn; rw [if_neg (by (lia (splits := 80))), if_neg (by (lia (splits := 80))), Int.mul_one, Int.mul_one]
theorem spn_zp {x0 y0 b h B : Int} (hh : 0 < h) (hb : 0 < b) : AllLe (spn 0 x0 h B b) (spn b y0 h 1 b) b ↔ PR x0 y0 0 b h := by
  rw [spn_z, spn_p hb]
  by_cases c : -x0 ≤ 0 ∧ 0 < h - x0
  · rw [if_pos c]
    unfold AllLe le2
    simp only []
    constructor
    · intro H
      exact pr_of (by (lia (splits := 80))) (by (lia (splits := 80))) fun z => absurd rfl z
    · rintro ⟨px, py, _, _, _, _⟩
      (lia (splits := 80))
  · rw [if_neg c]
    unfold AllLe le2
    simp only []
    constructor
    · intro H
      (lia (splits := 80))
    · rintro ⟨px, py, _, _, _, _⟩
      (lia (splits := 80))
theorem spn_zn {x0 y0 b h B : Int} (hh : 0 < h) (hb : b < 0) : AllLe (spn 0 x0 h B (-b)) (spn b y0 h 1 (-b)) (-b) ↔ PR x0 y0 0 b h := by
  rw [spn_z, spn_n hb]
  by_cases c : -x0 ≤ 0 ∧ 0 < h - x0
  · rw [if_pos c]
    unfold AllLe le2
    simp only []
    constructor
    · intro H
      exact pr_of (by (lia (splits := 80))) (by (lia (splits := 80))) fun z => absurd rfl z
    · rintro ⟨px, py, _, _, _, _⟩
      (lia (splits := 80))
  · rw [if_neg c]
    unfold AllLe le2
    simp only []
    constructor
    · intro H
      (lia (splits := 80))
    · rintro ⟨px, py, _, _, _, _⟩
      (lia (splits := 80))
theorem spn_pz {x0 y0 a h B : Int} (hh : 0 < h) (ha : 0 < a) : AllLe (spn a x0 h 1 a) (spn 0 y0 h B a) a ↔ PR x0 y0 a 0 h := by
  rw [spn_z, spn_p ha]
  by_cases c : -y0 ≤ 0 ∧ 0 < h - y0
  · rw [if_pos c]
    unfold AllLe le2
    simp only []
    constructor
    · intro H
      exact pr_of (by (lia (splits := 80))) (by (lia (splits := 80))) fun _ z => absurd rfl z
    · rintro ⟨px, py, _, _, _, _⟩
      (lia (splits := 80))
  · rw [if_neg c]
    unfold AllLe le2
    simp only []
    constructor
    · intro H
      (lia (splits := 80))
    · rintro ⟨px, py, _, _, _, _⟩
      (lia (splits := 80))
theorem spn_nz {x0 y0 a h B : Int} (hh : 0 < h) (ha : a < 0) : AllLe (spn a x0 h 1 (-a)) (spn 0 y0 h B (-a)) (-a) ↔ PR x0 y0 a 0 h := by
  rw [spn_z, spn_n ha]
  by_cases c : -y0 ≤ 0 ∧ 0 < h - y0
  · rw [if_pos c]
    unfold AllLe le2
    simp only []
    constructor
    · intro H
      exact pr_of (by (lia (splits := 80))) (by (lia (splits := 80))) fun _ z => absurd rfl z
    · rintro ⟨px, py, _, _, _, _⟩
      (lia (splits := 80))
  · rw [if_neg c]
    unfold AllLe le2
    simp only []
    constructor
    · intro H
      (lia (splits := 80))
    · rintro ⟨px, py, _, _, _, _⟩
      (lia (splits := 80))
end L2

set_option linter.all false
set_option maxHeartbeats 4000000
namespace L2
def lt2 (p q : Int × Int) : Bool := decide (p.1 < q.1) || (decide (p.1 = q.1) && decide (p.2 < q.2))
def mx2 (p q : Int × Int) : Int × Int := if lt2 p q = true then q else p
def mn2 (p q : Int × Int) : Int × Int := if lt2 q p = true then q else p
theorem lt2_iff (p q : Int × Int) : lt2 p q = true ↔ (p.1 < q.1 ∨ (p.1 = q.1 ∧ p.2 < q.2)) := by
  unfold lt2
  simp only [Bool.or_eq_true, Bool.and_eq_true, decide_eq_true_eq]
theorem mx_le (p q r : Int × Int) : le2 (mx2 p q) r ↔ le2 p r ∧ le2 q r := by
  unfold mx2 le2
  by_cases c : lt2 p q = true
  · rw [if_pos c]
    rw [lt2_iff] at c
    (lia (splits := 80))
  · rw [if_neg c]
    rw [lt2_iff] at c
    (lia (splits := 80))
theorem le_mn (p q r : Int × Int) : le2 r (mn2 p q) ↔ le2 r p ∧ le2 r q := by
  unfold mn2 le2
  by_cases c : lt2 q p = true
  · rw [if_pos c]
    rw [lt2_iff] at c
    (lia (splits := 80))
  · rw [if_neg c]
    rw [lt2_iff] at c
    (lia (splits := 80))
/-- first <= last, as the program has them -/
theorem first_last {x y : (Int × Int) × (Int × Int)} {L : Int} (hL : 0 < L) : le2 (mx2 (mx2 (0, 0) x.1) y.1) (mn2 (mn2 (L, 0) x.2) y.2) ↔ AllLe x y L := by
  rw [le_mn, le_mn]
  simp only [mx_le]
  unfold AllLe
  have : le2 (0, 0) (L, 0) := .inl hL
  constructor
  · rintro ⟨⟨⟨⟨a1, a2⟩, a3⟩, ⟨b1, b2⟩, b3⟩, ⟨c1, c2⟩, c3⟩
    exact ⟨b1, c1, a2, a3, b2, c3, c2, b3⟩
  · rintro ⟨b1, c1, a2, a3, b2, c3, c2, b3⟩
    exact ⟨⟨⟨⟨this, a2⟩, a3⟩, ⟨b1, b2⟩, b3⟩, ⟨c1, c2⟩, c3⟩
theorem pr_turned {x0 y0 a b h : Int} (q : PR x0 y0 a b h) : PR (x0 + a) (y0 + b) (-a) (-b) h := by
  obtain ⟨px, py, pp, pn, np, nn⟩ := q
  have e1 : -b * (x0 + a) - -a * (y0 + b) = -(b * x0 - a * y0) := by grind
  have e2 : -a * h = -(a * h) := by grind
  have e3 : -b * h = -(b * h) := by grind
  refine ⟨by (lia (splits := 80)), by (lia (splits := 80)), fun h1 h2 => ?_, fun h1 h2 => ?_, fun h1 h2 => ?_, fun h1 h2 => ?_⟩
  · have := nn (by (lia (splits := 80))) (by (lia (splits := 80)))
    rw [e1, e2, e3]
    (lia (splits := 80))
  · have := np (by (lia (splits := 80))) (by (lia (splits := 80)))
    rw [e1, e2, e3]
    (lia (splits := 80))
  · have := pn (by (lia (splits := 80))) (by (lia (splits := 80)))
    rw [e1, e2, e3]
    (lia (splits := 80))
  · have := pp (by (lia (splits := 80))) (by (lia (splits := 80)))
    rw [e1, e2, e3]
    (lia (splits := 80))
end L2

set_option linter.all false
set_option maxHeartbeats 4000000
namespace L2
/-- max(abs(a), 1) -/
def mx1 (a : Int) : Int := if (1 : Int) > (a.natAbs : Int) then 1 else (a.natAbs : Int)
theorem mx1_pos {a : Int} (h : 0 < a) : mx1 a = a := by unfold mx1; rw [if_neg (by omega)]; omega
theorem mx1_neg {a : Int} (h : a < 0) : mx1 a = -a := by unfold mx1; rw [if_neg (by omega)]; omega
theorem mx1_zero : mx1 0 = 1 := by decide
theorem mx1_gt (a : Int) : 0 < mx1 a := by unfold mx1; split <;> omega
theorem prog_pr {x0 y0 a b h : Int} (hh : 0 < h) (hn : ¬ (a = 0 ∧ b = 0)) :
    AllLe (spn a x0 h ((mx1 a * mx1 b).fdiv (a.natAbs : Int)) (mx1 a * mx1 b)) (spn b y0 h ((mx1 a * mx1 b).fdiv (b.natAbs : Int)) (mx1 a * mx1 b)) (mx1 a * mx1 b) ↔ PR x0 y0 a b h := by
  have fd : ∀ {x y : Int}, x ≠ 0 → (x * y).fdiv x = y := fun {x y} hx => Int.mul_fdiv_cancel_left y hx
  have fd' : ∀ {x y : Int}, y ≠ 0 → (x * y).fdiv y = x := fun {x y} hy => Int.mul_fdiv_cancel x hy
  rcases Int.lt_trichotomy a 0 with ha | ha | ha
  · have na : (a.natAbs : Int) = -a := by omega
    rcases Int.lt_trichotomy b 0 with hb | hb | hb
    · have nb : (b.natAbs : Int) = -b := by omega
      rw [mx1_neg ha, mx1_neg hb, na, nb, fd (by omega), fd' (by omega)]
      exact spn_nn hh ha hb
    · subst hb
      rw [mx1_neg ha, mx1_zero, na, fd (by omega), Int.mul_one]
      exact spn_nz hh ha
    · have nb : (b.natAbs : Int) = b := by omega
      rw [mx1_neg ha, mx1_pos hb, na, nb, fd (by omega), fd' (by omega)]
      exact spn_np hh ha hb
  · subst ha
    rcases Int.lt_trichotomy b 0 with hb | hb | hb
    · have nb : (b.natAbs : Int) = -b := by omega
      rw [mx1_neg hb, mx1_zero, nb, fd' (by omega), Int.one_mul]
      exact spn_zn hh hb
    · exact absurd ⟨rfl, hb⟩ hn
    · have nb : (b.natAbs : Int) = b := by omega
      rw [mx1_pos hb, mx1_zero, nb, fd' (by omega), Int.one_mul]
      exact spn_zp hh hb
  · have na : (a.natAbs : Int) = a := by omega
    rcases Int.lt_trichotomy b 0 with hb | hb | hb
    · have nb : (b.natAbs : Int) = -b := by omega
      rw [mx1_pos ha, mx1_neg hb, na, nb, fd (by omega), fd' (by omega)]
      exact spn_pn hh ha hb
    · subst hb
      rw [mx1_pos ha, mx1_zero, na, fd (by omega), Int.mul_one]
      exact spn_pz hh ha
    · have nb : (b.natAbs : Int) = b := by omega
      rw [mx1_pos ha, mx1_pos hb, na, nb, fd (by omega), fd' (by omega)]
      exact spn_pp hh ha hb
end L2

set_option linter.all false
set_option maxHeartbeats 4000000
namespace L2
/-! ### a side meets a cell: the law's tests and the program's, joined -/
/-- a side's ends in the chart: x0, y0 the one, x1, y1 the other, the cell [0, h) x [0, h) -/
def cX (i s0 s1 : Int) (px pz qz : Int) : Int := (2 * s1 * px - (2 * i - 1) * s0 * pz) * qz
def MeetP (p q : Pt3) (i j s0 s1 : Int) : Prop := PR (cX i s0 s1 p.x p.z q.z) (cX j s0 s1 p.y p.z q.z) (cX i s0 s1 q.x q.z p.z - cX i s0 s1 p.x p.z q.z) (cX j s0 s1 q.y q.z p.z - cX j s0 s1 p.y p.z q.z) (2 * s0 * (p.z * q.z))
theorem MeetP.turn {p q : Pt3} {i j s0 s1 : Int} (h : MeetP p q i j s0 s1) : MeetP q p i j s0 s1 := by
  have := pr_turned h
  unfold MeetP
  have e1 : ∀ x y : Int, x + (y - x) = y := fun x y => by omega
  have e2 : ∀ x y : Int, -(y - x) = x - y := fun x y => by omega
  rw [e1, e1, e2, e2] at this
  rw [Int.mul_comm q.z p.z]
  exact this
theorem MeetP.comm {p q : Pt3} {i j s0 s1 : Int} : MeetP p q i j s0 s1 ↔ MeetP q p i j s0 s1 := ⟨MeetP.turn, MeetP.turn⟩
/-- inside, as the law asks -/
def InsP (p : Pt3) (i j s0 s1 : Int) : Prop := ((2 * i - 1) * (s0 * p.z) ≤ 2 * s1 * p.x ∧ 2 * s1 * p.x < (2 * i + 1) * (s0 * p.z)) ∧ ((2 * j - 1) * (s0 * p.z) ≤ 2 * s1 * p.y ∧ 2 * s1 * p.y < (2 * j + 1) * (s0 * p.z))
theorem cX_ge {i s0 s1 px pz qz : Int} (hq : 0 < qz) : 0 ≤ cX i s0 s1 px pz qz ↔ (2 * i - 1) * (s0 * pz) ≤ 2 * s1 * px := by
  unfold cX
  have e : (2 * i - 1) * (s0 * pz) = (2 * i - 1) * s0 * pz := by grind
  rw [e]
  generalize 2 * s1 * px = u
  generalize (2 * i - 1) * s0 * pz = v
  constructor
  · intro h
    have := Int.nonneg_of_mul_nonneg_left h hq
    omega
  · intro h
    exact Int.mul_nonneg (by omega) (Int.le_of_lt hq)
theorem cX_le {i s0 s1 px pz qz : Int} (hq : 0 < qz) : cX i s0 s1 px pz qz ≤ 0 ↔ 2 * s1 * px ≤ (2 * i - 1) * s0 * pz := by
  unfold cX
  generalize 2 * s1 * px = u
  generalize (2 * i - 1) * s0 * pz = v
  constructor
  · intro h
    have h' : (v - u) * qz ≥ 0 := by
      have : (v - u) * qz = -((u - v) * qz) := by grind
      omega
    have := Int.nonneg_of_mul_nonneg_left h' hq
    omega
  · intro h
    have := Int.mul_nonneg (show 0 ≤ v - u by omega) (Int.le_of_lt hq)
    have e : (v - u) * qz = -((u - v) * qz) := by grind
    omega
theorem cX_lt {i s0 s1 px pz qz : Int} (hq : 0 < qz) : cX i s0 s1 px pz qz < 2 * s0 * (pz * qz) ↔ 2 * s1 * px < (2 * i + 1) * s0 * pz := by
  have e : cX i s0 s1 px pz qz - 2 * s0 * (pz * qz) = (2 * s1 * px - (2 * i + 1) * s0 * pz) * qz := by unfold cX; grind
  have h1 : cX i s0 s1 px pz qz < 2 * s0 * (pz * qz) ↔ (2 * s1 * px - (2 * i + 1) * s0 * pz) * qz < 0 := by
    rw [← e]
    omega
  rw [h1]
  generalize 2 * s1 * px = u
  generalize (2 * i + 1) * s0 * pz = v
  constructor
  · intro h
    rcases Int.lt_or_le u v with c | c
    · exact c
    · have := Int.mul_nonneg (show 0 ≤ u - v by omega) (Int.le_of_lt hq)
      omega
  · intro h
    exact Int.mul_neg_of_neg_of_pos (by omega) hq
theorem ins_ch {p q : Pt3} {i j s0 s1 : Int} (hq : 0 < q.z) : InsP p i j s0 s1 ↔ (0 ≤ cX i s0 s1 p.x p.z q.z ∧ cX i s0 s1 p.x p.z q.z < 2 * s0 * (p.z * q.z) ∧ 0 ≤ cX j s0 s1 p.y p.z q.z ∧ cX j s0 s1 p.y p.z q.z < 2 * s0 * (p.z * q.z)) := by
  rw [cX_ge hq, cX_ge hq, cX_lt hq, cX_lt hq]
  unfold InsP
  have e : ∀ i : Int, (2 * i + 1) * (s0 * p.z) = (2 * i + 1) * s0 * p.z := fun i => by grind
  rw [e, e]
  constructor
  · rintro ⟨⟨a, b⟩, c, d⟩
    exact ⟨a, b, c, d⟩
  · rintro ⟨a, b, c, d⟩
    exact ⟨⟨a, b⟩, c, d⟩
/-- a border met, as the law asks -/
def bordB (p q lo hi : Pt3) : Bool := if touchB p q lo hi = false then false else if onB hi p q = false then true else if ¬ sgn (det p q lo) = 0 then false else (ahd p hi || ahd q hi)
section
variable {s k l M : Int} {p q r : Pt3} {x0 y0 x1 y1 x2 y2 : Int}
theorem ch_bord {u : Pt3} {x3 y3 : Int} (hs : 0 < s) (hM : 0 < M) (hp : 0 < p.z) (hq : 0 < q.z) (hr : 0 < r.z) (hu : 0 < u.z) (h0 : Ch s k l M p x0 y0) (h1 : Ch s k l M q x1 y1) (h2 : Ch s k l M r 0 0) (h3 : Ch s k l M u x3 y3) : bordB p q r u = bordP x0 y0 x1 y1 x3 y3 := by
  unfold bordB bordP
  rw [ch_touch hs hM hp hq hr hu h0 h1 h2 h3, ch_onB hs hM hp hq hu h0 h1 h3, ch_det hs hM hp hq hr h0 h1 h2, ch_ahd hs hM hp hu h0 h3, ch_ahd hs hM hq hu h1 h3]
end
/-- no axis parts them, as the law asks -/
def AxP (a0 z0 a1 z1 i s0 s1 : Int) : Prop := ¬ (2 * s1 * a0 ≤ (2 * i - 1) * s0 * z0 ∧ 2 * s1 * a1 ≤ (2 * i - 1) * s0 * z1) ∧ ¬ ((2 * i + 1) * s0 * z0 ≤ 2 * s1 * a0 ∧ (2 * i + 1) * s0 * z1 ≤ 2 * s1 * a1)
def Thr (p q c0 c1 c2 c3 : Pt3) (i j s0 s1 : Int) : Prop := (1 ∈ [sgn (det p q c0), sgn (det p q c1), sgn (det p q c2), sgn (det p q c3)] ∧ -1 ∈ [sgn (det p q c0), sgn (det p q c1), sgn (det p q c2), sgn (det p q c3)]) ∧ AxP p.x p.z q.x q.z i s0 s1 ∧ AxP p.y p.z q.y q.z j s0 s1
theorem sgn_one {x : Int} : 1 = sgn x ↔ 0 < x := by
  unfold sgn
  (repeat' split) <;> omega
theorem sgn_mone {x : Int} : -1 = sgn x ↔ x < 0 := by
  unfold sgn
  (repeat' split) <;> omega
theorem axp_ch {a0 z0 a1 z1 i s0 s1 : Int} (h0 : 0 < z0) (h1 : 0 < z1) : AxP a0 z0 a1 z1 i s0 s1 ↔ (¬ (cX i s0 s1 a0 z0 z1 ≤ 0 ∧ cX i s0 s1 a1 z1 z0 ≤ 0) ∧ ¬ (2 * s0 * (z0 * z1) ≤ cX i s0 s1 a0 z0 z1 ∧ 2 * s0 * (z0 * z1) ≤ cX i s0 s1 a1 z1 z0)) := by
  unfold AxP
  have e1 := cX_lt (i := i) (s0 := s0) (s1 := s1) (px := a0) (pz := z0) h1
  have e2 := cX_lt (i := i) (s0 := s0) (s1 := s1) (px := a1) (pz := z1) h0
  rw [Int.mul_comm z1 z0] at e2
  rw [cX_le h1, cX_le h0, ← Int.not_lt (a := cX i s0 s1 a0 z0 z1), ← Int.not_lt (a := cX i s0 s1 a1 z1 z0), e1, e2, Int.not_lt, Int.not_lt]
/-- the law's answer -/
theorem law_meet {p q c00 c10 c01 c11 : Pt3} {i j s0 s1 : Int} (hp : 0 < p.z) (hq : 0 < q.z) (h0 : 0 < s0) (h1 : 0 < s1) (ap : Apart p q)
    (i0 : Is3 ((2 * i - 1 + 2 * 0) * s0) ((2 * j - 1 + 2 * 0) * s0) (2 * s1) c00) (i1 : Is3 ((2 * i - 1 + 2 * 1) * s0) ((2 * j - 1 + 2 * 0) * s0) (2 * s1) c10) (i2 : Is3 ((2 * i - 1 + 2 * 0) * s0) ((2 * j - 1 + 2 * 1) * s0) (2 * s1) c01) (i3 : Is3 ((2 * i - 1 + 2 * 1) * s0) ((2 * j - 1 + 2 * 1) * s0) (2 * s1) c11) :
    (InsP p i j s0 s1 ∨ InsP q i j s0 s1 ∨ bordB p q c00 c01 = true ∨ bordB p q c00 c10 = true ∨ Thr p q c00 c10 c01 c11 i j s0 s1) ↔ MeetP p q i j s0 s1 := by
  have hs : 0 < 2 * s1 := by omega
  have hM : 0 < p.z * q.z := Int.mul_pos hp hq
  have hh : 0 < 2 * s0 * (p.z * q.z) := Int.mul_pos (by omega) hM
  have P : Ch (2 * s1) ((2 * i - 1) * s0) ((2 * j - 1) * s0) (p.z * q.z) p (cX i s0 s1 p.x p.z q.z) (cX j s0 s1 p.y p.z q.z) := ch_left _ _ _ p q
  have R : Ch (2 * s1) ((2 * i - 1) * s0) ((2 * j - 1) * s0) (p.z * q.z) q (cX i s0 s1 q.x q.z p.z) (cX j s0 s1 q.y q.z p.z) := ch_right _ _ _ p q
  have C0 := ch_corner (M := p.z * q.z) hs i0
  have C1 := ch_corner (M := p.z * q.z) hs i1
  have C2 := ch_corner (M := p.z * q.z) hs i2
  have C3 := ch_corner (M := p.z * q.z) hs i3
  have b1 := ch_bord hs hM hp hq i0.pos i2.pos P R (by simpa using C0) C2
  have b2 := ch_bord hs hM hp hq i0.pos i1.pos P R (by simpa using C0) C1
  have d0 := ch_det hs hM hp hq i0.pos P R C0
  have d1 := ch_det hs hM hp hq i1.pos P R C1
  have d2 := ch_det hs hM hp hq i2.pos P R C2
  have d3 := ch_det hs hM hp hq i3.pos P R C3
  have q1 := ins_ch (p := p) (i := i) (j := j) (s0 := s0) (s1 := s1) hq
  have q2 := ins_ch (p := q) (i := i) (j := j) (s0 := s0) (s1 := s1) hp
  rw [Int.mul_comm q.z p.z] at q2
  have a1 := axp_ch (a0 := p.x) (a1 := q.x) (i := i) (s0 := s0) (s1 := s1) hp hq
  have a2 := axp_ch (a0 := p.y) (a1 := q.y) (i := j) (s0 := s0) (s1 := s1) hp hq
  have nx := P.dx R
  have ny := P.dy R
  unfold MeetP Thr
  rw [q1, q2, b1, b2, d0, d1, d2, d3, a1, a2]
  revert nx ny hh
  generalize cX i s0 s1 p.x p.z q.z = X0
  generalize cX j s0 s1 p.y p.z q.z = Y0
  generalize cX i s0 s1 q.x q.z p.z = X1
  generalize cX j s0 s1 q.y q.z p.z = Y1
  generalize 2 * s0 * (p.z * q.z) = h
  intro hh nx ny
  have hn : ¬ (X1 - X0 = 0 ∧ Y1 - Y0 = 0) := by
    rintro ⟨z1, z2⟩
    rw [z1, Int.mul_zero] at nx
    rw [z2, Int.mul_zero] at ny
    have ms : p.z * q.z * (2 * s1) ≠ 0 := Int.ne_of_gt (Int.mul_pos hM hs)
    have m1 := (Int.mul_eq_zero.mp nx.symm).resolve_left ms
    have m2 := (Int.mul_eq_zero.mp ny.symm).resolve_left ms
    exact ap ⟨by omega, by omega⟩
  rw [← plane_cell hh hn]
  obtain ⟨a, rfl⟩ : ∃ a, X1 = X0 + a := ⟨X1 - X0, by omega⟩
  obtain ⟨b, rfl⟩ : ∃ b, Y1 = Y0 + b := ⟨Y1 - Y0, by omega⟩
  rw [show X0 + a - X0 = a by omega, show Y0 + b - Y0 = b by omega] at hn ⊢
  have z0 : (0 : Int) * h = 0 := Int.zero_mul h
  have z1 : (1 : Int) * h = h := Int.one_mul h
  rw [z0, z1, bl_form hh hn, bb_form hh hn]
  have e0 : dP2 X0 Y0 (X0 + a) (Y0 + b) 0 0 = b * X0 - a * Y0 := by unfold dP2; grind
  have e1 : dP2 X0 Y0 (X0 + a) (Y0 + b) h 0 = b * X0 - a * Y0 - b * h := by unfold dP2; grind
  have e2 : dP2 X0 Y0 (X0 + a) (Y0 + b) 0 h = b * X0 - a * Y0 + a * h := by unfold dP2; grind
  have e3 : dP2 X0 Y0 (X0 + a) (Y0 + b) h h = b * X0 - a * Y0 + a * h - b * h := by unfold dP2; grind
  rw [e0, e1, e2, e3]
  simp only [List.mem_cons, List.not_mem_nil, or_false, sgn_one, sgn_mone]
  have th : (((0 < b * X0 - a * Y0 ∨ 0 < b * X0 - a * Y0 - b * h ∨ 0 < b * X0 - a * Y0 + a * h ∨ 0 < b * X0 - a * Y0 + a * h - b * h) ∧ (b * X0 - a * Y0 < 0 ∨ b * X0 - a * Y0 - b * h < 0 ∨ b * X0 - a * Y0 + a * h < 0 ∨ b * X0 - a * Y0 + a * h - b * h < 0)) ∧ (¬ (X0 ≤ 0 ∧ X0 + a ≤ 0) ∧ ¬ (h ≤ X0 ∧ h ≤ X0 + a)) ∧ ¬ (Y0 ≤ 0 ∧ Y0 + b ≤ 0) ∧ ¬ (h ≤ Y0 ∧ h ≤ Y0 + b)) ↔ TH X0 Y0 a b h := by
    constructor
    · rintro ⟨⟨u1, u2⟩, ⟨u3, u4⟩, u5, u6⟩
      refine ⟨?_, ?_, u3, u4, u5, u6⟩
      · rcases u1 with u | u | u | u
        · exact .inl u
        · exact .inr (.inr (.inl u))
        · exact .inr (.inl u)
        · exact .inr (.inr (.inr u))
      · rcases u2 with u | u | u | u
        · exact .inl u
        · exact .inr (.inr (.inl u))
        · exact .inr (.inl u)
        · exact .inr (.inr (.inr u))
    · rintro ⟨u1, u2, u3, u4, u5, u6⟩
      refine ⟨⟨?_, ?_⟩, ⟨u3, u4⟩, u5, u6⟩
      · rcases u1 with u | u | u | u
        · exact .inl u
        · exact .inr (.inr (.inl u))
        · exact .inr (.inl u)
        · exact .inr (.inr (.inr u))
      · rcases u2 with u | u | u | u
        · exact .inl u
        · exact .inr (.inr (.inl u))
        · exact .inr (.inl u)
        · exact .inr (.inr (.inr u))
  rw [th]
/-- the program's answer: f the way, b the begin, m the half -/
theorem prog_meet {p q : Pt3} {i j s0 s1 : Int} (hp : 0 < p.z) (hq : 0 < q.z) (h0 : 0 < s0) (h1 : 0 < s1) (ap : Apart p q) {a b L : Int} (ea : a = cX i s0 s1 q.x q.z p.z - cX i s0 s1 p.x p.z q.z) (eb : b = cX j s0 s1 q.y q.z p.z - cX j s0 s1 p.y p.z q.z) (eL : L = mx1 a * mx1 b) :
    le2 (mx2 (mx2 (0, 0) (spn a (cX i s0 s1 p.x p.z q.z) (2 * s0 * (p.z * q.z)) (L.fdiv (a.natAbs : Int)) L).1) (spn b (cX j s0 s1 p.y p.z q.z) (2 * s0 * (p.z * q.z)) (L.fdiv (b.natAbs : Int)) L).1) (mn2 (mn2 (L, 0) (spn a (cX i s0 s1 p.x p.z q.z) (2 * s0 * (p.z * q.z)) (L.fdiv (a.natAbs : Int)) L).2) (spn b (cX j s0 s1 p.y p.z q.z) (2 * s0 * (p.z * q.z)) (L.fdiv (b.natAbs : Int)) L).2) ↔ MeetP p q i j s0 s1 := by
  have hs : 0 < 2 * s1 := by omega
  have hM : 0 < p.z * q.z := Int.mul_pos hp hq
  have hh : 0 < 2 * s0 * (p.z * q.z) := Int.mul_pos (by omega) hM
  have P : Ch (2 * s1) ((2 * i - 1) * s0) ((2 * j - 1) * s0) (p.z * q.z) p (cX i s0 s1 p.x p.z q.z) (cX j s0 s1 p.y p.z q.z) := ch_left _ _ _ p q
  have R : Ch (2 * s1) ((2 * i - 1) * s0) ((2 * j - 1) * s0) (p.z * q.z) q (cX i s0 s1 q.x q.z p.z) (cX j s0 s1 q.y q.z p.z) := ch_right _ _ _ p q
  have nx := P.dx R
  have ny := P.dy R
  have hn : ¬ (a = 0 ∧ b = 0) := by
    rintro ⟨z1, z2⟩
    rw [← ea, z1, Int.mul_zero] at nx
    rw [← eb, z2, Int.mul_zero] at ny
    have ms : p.z * q.z * (2 * s1) ≠ 0 := Int.ne_of_gt (Int.mul_pos hM hs)
    have m1 := (Int.mul_eq_zero.mp nx.symm).resolve_left ms
    have m2 := (Int.mul_eq_zero.mp ny.symm).resolve_left ms
    exact ap ⟨by omega, by omega⟩
  subst eL
  rw [first_last (Int.mul_pos (mx1_gt a) (mx1_gt b)), prog_pr hh hn]
  unfold MeetP
  rw [← ea, ← eb]
end L2

set_option linter.all false
set_option maxRecDepth 100000
namespace L2
open PySem PySem.Spec PyProof.Rows
/-! pairs of ints: <, <=, > -/
section
variable {prog : Program} {w : World} {A : Around} {E : Value → Shared → Prop} {s : Shared}
theorem rc_lt {a b : Int} {t u : Tok} {Q : Value → Shared → Prop} (h : Q (.bool (decide (a < b))) s) : wpAny (model prog w) A (richCompare .Lt (.int a t) (.int b u)) Q E s :=
  richCompare_gives (op := .Lt) (typeIs_int s _ t) (typeIs_int s _ u) F.slot_int_lt F.entry_int_lt (F.args_int_lt_2 _ _) (gives_int_lt _ _ t u) (fun x => nomatch x) h
theorem rc_le {a b : Int} {t u : Tok} {Q : Value → Shared → Prop} (h : Q (.bool (decide (a ≤ b))) s) : wpAny (model prog w) A (richCompare .LtE (.int a t) (.int b u)) Q E s :=
  richCompare_gives (op := .LtE) (typeIs_int s _ t) (typeIs_int s _ u) F.slot_int_le F.entry_int_le (F.args_int_le_2 _ _) (gives_int_le _ _ t u) (fun x => nomatch x) h
theorem rc_gt {a b : Int} {t u : Tok} {Q : Value → Shared → Prop} (h : Q (.bool (decide (b < a))) s) : wpAny (model prog w) A (richCompare .Gt (.int a t) (.int b u)) Q E s :=
  richCompare_gives (op := .Gt) (typeIs_int s _ t) (typeIs_int s _ u) F.slot_int_gt F.entry_int_gt (F.args_int_gt_2 _ _) (gives_int_gt _ _ t u) (fun x => nomatch x) h
end
section
variable (l b : Addr) (x1 x2 y1 y2 : Int) (t1 t2 u1 u2 : Tok) (n n2 : Nat) (dd dd2 : Option Addr) (sl sl2 : Array (Option Value))
theorem pair_lt : Meets (Builtin.«tuple.__lt__» ⟨[.ref l, .ref b], []⟩)
    (fun A R s => s.heap.get? l = some { cls := .type "tuple", dict := dd, data := .seq #[.int x1 t1, .int x2 t2] n, slots := sl } ∧ s.heap.get? b = some { cls := .type "tuple", dict := dd2, data := .seq #[.int y1 u1, .int y2 u2] n2, slots := sl2 } ∧
      R (.ok (.ret (.bool (if x1 = y1 then (if x2 = y2 then false else decide (x2 < y2)) else decide (x1 < y1))))) s) :=
  .of_wp fun prog w A R s h => by
    obtain ⟨hp, g, d, tk, os⟩ := s; obtain ⟨hl, hb, h⟩ := h
    have f2 := AutoSeq1.sub_tuple_tuple
    wp_walk using wpAny_loadPart' hl, wpAny_loadPart' hb
    refine SeqAt.EqAt.int_int x1 t1 y1 u1 prog w _ _ ?_
    by_cases e1 : x1 = y1
    · rw [if_pos e1] at h
      rw [show (x1 == y1) = true from by simpa using e1]
      wp_walk
      refine SeqAt.EqAt.int_int x2 t2 y2 u2 prog w _ _ ?_
      by_cases e2 : x2 = y2
      · rw [if_pos e2] at h
        rw [show (x2 == y2) = true from by simpa using e2]
        wp_walk
        exact ⟨_, rfl, h⟩
      · rw [if_neg e2] at h
        rw [show (x2 == y2) = false from by simpa using e2]
        wp_walk using rc_lt
        exact ⟨_, rfl, h⟩
    · rw [if_neg e1] at h
      rw [show (x1 == y1) = false from by simpa using e1]
      wp_walk using rc_lt
      exact ⟨_, rfl, h⟩
theorem pair_le : Meets (Builtin.«tuple.__le__» ⟨[.ref l, .ref b], []⟩)
    (fun A R s => s.heap.get? l = some { cls := .type "tuple", dict := dd, data := .seq #[.int x1 t1, .int x2 t2] n, slots := sl } ∧ s.heap.get? b = some { cls := .type "tuple", dict := dd2, data := .seq #[.int y1 u1, .int y2 u2] n2, slots := sl2 } ∧
      R (.ok (.ret (.bool (if x1 = y1 then (if x2 = y2 then true else decide (x2 ≤ y2)) else decide (x1 ≤ y1))))) s) :=
  .of_wp fun prog w A R s h => by
    obtain ⟨hp, g, d, tk, os⟩ := s; obtain ⟨hl, hb, h⟩ := h
    have f2 := AutoSeq1.sub_tuple_tuple
    wp_walk using wpAny_loadPart' hl, wpAny_loadPart' hb
    refine SeqAt.EqAt.int_int x1 t1 y1 u1 prog w _ _ ?_
    by_cases e1 : x1 = y1
    · rw [if_pos e1] at h
      rw [show (x1 == y1) = true from by simpa using e1]
      wp_walk
      refine SeqAt.EqAt.int_int x2 t2 y2 u2 prog w _ _ ?_
      by_cases e2 : x2 = y2
      · rw [if_pos e2] at h
        rw [show (x2 == y2) = true from by simpa using e2]
        wp_walk
        exact ⟨_, rfl, h⟩
      · rw [if_neg e2] at h
        rw [show (x2 == y2) = false from by simpa using e2]
        wp_walk using rc_le
        exact ⟨_, rfl, h⟩
    · rw [if_neg e1] at h
      rw [show (x1 == y1) = false from by simpa using e1]
      wp_walk using rc_le
      exact ⟨_, rfl, h⟩
theorem pair_gt : Meets (Builtin.«tuple.__gt__» ⟨[.ref l, .ref b], []⟩)
    (fun A R s => s.heap.get? l = some { cls := .type "tuple", dict := dd, data := .seq #[.int x1 t1, .int x2 t2] n, slots := sl } ∧ s.heap.get? b = some { cls := .type "tuple", dict := dd2, data := .seq #[.int y1 u1, .int y2 u2] n2, slots := sl2 } ∧
      R (.ok (.ret (.bool (if x1 = y1 then (if x2 = y2 then false else decide (y2 < x2)) else decide (y1 < x1))))) s) :=
  .of_wp fun prog w A R s h => by
    obtain ⟨hp, g, d, tk, os⟩ := s; obtain ⟨hl, hb, h⟩ := h
    have f2 := AutoSeq1.sub_tuple_tuple
    wp_walk using wpAny_loadPart' hl, wpAny_loadPart' hb
    refine SeqAt.EqAt.int_int x1 t1 y1 u1 prog w _ _ ?_
    by_cases e1 : x1 = y1
    · rw [if_pos e1] at h
      rw [show (x1 == y1) = true from by simpa using e1]
      wp_walk
      refine SeqAt.EqAt.int_int x2 t2 y2 u2 prog w _ _ ?_
      by_cases e2 : x2 = y2
      · rw [if_pos e2] at h
        rw [show (x2 == y2) = true from by simpa using e2]
        wp_walk
        exact ⟨_, rfl, h⟩
      · rw [if_neg e2] at h
        rw [show (x2 == y2) = false from by simpa using e2]
        wp_walk using rc_gt
        exact ⟨_, rfl, h⟩
    · rw [if_neg e1] at h
      rw [show (x1 == y1) = false from by simpa using e1]
      wp_walk using rc_gt
      exact ⟨_, rfl, h⟩
end
end L2

set_option linter.all false
set_option maxRecDepth 100000
namespace L2
open PySem PySem.Spec PyProof.Rows
/-! max and min of three pairs of ints, <= of two -/
section
variable {prog : Program} {w : World} {A : Around} {E : Value → Shared → Prop} {s : Shared}
/-- a pair of ints stands there -/
def PrAt (h : Heap) (v : Value) (p : Int × Int) : Prop := ∃ (a : Addr) (t u : Tok), v = .ref a ∧ h.IsTuple a #[.int p.1 t, .int p.2 u]
theorem PrAt.keep {h h' : Heap} {v : Value} {p : Int × Int} (i : PrAt h v p) (k : ∀ a o, v = .ref a → h.get? a = some o → h'.get? a = some o) : PrAt h' v p := by
  obtain ⟨a, t, u, rfl, o, ho, hc, hd⟩ := i
  exact ⟨a, t, u, rfl, o, k a o rfl ho, hc, hd⟩
theorem lt2_if (p q : Int × Int) : (if p.1 = q.1 then (if p.2 = q.2 then false else decide (p.2 < q.2)) else decide (p.1 < q.1)) = lt2 p q := by
  unfold lt2
  by_cases e1 : p.1 = q.1
  · by_cases e2 : p.2 = q.2
    · simp [e1, e2]
    · simp [e1, e2]
  · simp [e1]
theorem le2_if (p q : Int × Int) : (if p.1 = q.1 then (if p.2 = q.2 then true else decide (p.2 ≤ q.2)) else decide (p.1 ≤ q.1)) = decide (p.1 < q.1 ∨ (p.1 = q.1 ∧ p.2 ≤ q.2)) := by
  by_cases e1 : p.1 = q.1
  · by_cases e2 : p.2 = q.2
    · simp [e1, e2]
    · simp [e1, e2]
  · rw [if_neg e1]
    refine decide_eq_decide.mpr ?_
    omega
theorem rcp_lt {v u : Value} {p q : Int × Int} {Q : Value → Shared → Prop} (hv : PrAt s.heap v p) (hu : PrAt s.heap u q) (hA : A.units < cLine) (h : Q (.bool (lt2 p q)) s) : wpAny (model prog w) A (richCompare .Lt v u) Q E s := by
  obtain ⟨l, t1, t2, rfl, ⟨cls, dd, data, sl⟩, ho, hc, n, hd⟩ := hv
  obtain ⟨b, u1, u2, rfl, ⟨cls2, dd2, data2, sl2⟩, ho2, hc2, n2, hd2⟩ := hu
  simp only at hc hd hc2 hd2
  subst hc hd hc2 hd2
  refine richCompare_meets_room (op := .Lt) ⟨_, ho, rfl⟩ ⟨_, ho2, rfl⟩ F.slot_tuple_lt F.entry_tuple_lt (F.args_tuple_lt_2 _ _) (pair_lt l b p.1 p.2 q.1 q.2 t1 t2 u1 u2 n n2 dd dd2 sl sl2) ⟨ho, ho2, ?_⟩ hA
  rw [lt2_if]
  exact show Value.bool (lt2 p q) ≠ Value.notImplemented ∧ Q (.bool (lt2 p q)) s from ⟨(fun x => nomatch x), h⟩
theorem rcp_le {v u : Value} {p q : Int × Int} {Q : Value → Shared → Prop} (hv : PrAt s.heap v p) (hu : PrAt s.heap u q) (hA : A.units < cLine) (h : Q (.bool (decide (p.1 < q.1 ∨ (p.1 = q.1 ∧ p.2 ≤ q.2)))) s) : wpAny (model prog w) A (richCompare .LtE v u) Q E s := by
  obtain ⟨l, t1, t2, rfl, ⟨cls, dd, data, sl⟩, ho, hc, n, hd⟩ := hv
  obtain ⟨b, u1, u2, rfl, ⟨cls2, dd2, data2, sl2⟩, ho2, hc2, n2, hd2⟩ := hu
  simp only at hc hd hc2 hd2
  subst hc hd hc2 hd2
  refine richCompare_meets_room (op := .LtE) ⟨_, ho, rfl⟩ ⟨_, ho2, rfl⟩ F.slot_tuple_le F.entry_tuple_le (F.args_tuple_le_2 _ _) (pair_le l b p.1 p.2 q.1 q.2 t1 t2 u1 u2 n n2 dd dd2 sl sl2) ⟨ho, ho2, ?_⟩ hA
  rw [le2_if]
  exact show Value.bool (decide (p.1 < q.1 ∨ (p.1 = q.1 ∧ p.2 ≤ q.2))) ≠ Value.notImplemented ∧ Q (.bool (decide (p.1 < q.1 ∨ (p.1 = q.1 ∧ p.2 ≤ q.2)))) s from ⟨(fun x => nomatch x), h⟩
theorem rcp_gt {v u : Value} {p q : Int × Int} {Q : Value → Shared → Prop} (hv : PrAt s.heap v p) (hu : PrAt s.heap u q) (hA : A.units < cLine) (h : Q (.bool (lt2 q p)) s) : wpAny (model prog w) A (richCompare .Gt v u) Q E s := by
  obtain ⟨l, t1, t2, rfl, ⟨cls, dd, data, sl⟩, ho, hc, n, hd⟩ := hv
  obtain ⟨b, u1, u2, rfl, ⟨cls2, dd2, data2, sl2⟩, ho2, hc2, n2, hd2⟩ := hu
  simp only at hc hd hc2 hd2
  subst hc hd hc2 hd2
  refine richCompare_meets_room (op := .Gt) ⟨_, ho, rfl⟩ ⟨_, ho2, rfl⟩ F.slot_tuple_gt F.entry_tuple_gt (F.args_tuple_gt_2 _ _) (pair_gt l b p.1 p.2 q.1 q.2 t1 t2 u1 u2 n n2 dd dd2 sl sl2) ⟨ho, ho2, ?_⟩ hA
  have e : (if p.1 = q.1 then (if p.2 = q.2 then false else decide (q.2 < p.2)) else decide (q.1 < p.1)) = lt2 q p := by
    rw [← lt2_if]
    by_cases e1 : p.1 = q.1
    · by_cases e2 : p.2 = q.2
      · rw [if_pos e1, if_pos e2, if_pos e1.symm, if_pos e2.symm]
      · rw [if_pos e1, if_neg e2, if_pos e1.symm, if_neg (fun z => e2 z.symm)]
    · rw [if_neg e1, if_neg (fun z => e1 z.symm)]
  rw [e]
  exact show Value.bool (lt2 q p) ≠ Value.notImplemented ∧ Q (.bool (lt2 q p)) s from ⟨(fun x => nomatch x), h⟩
end
/-! what max (true) and min (false) share -/
def bFn : Bool → String | true => "max" | false => "min"
def bId : Bool → String | true => "max.loop" | false => "min.loop"
def bLp : Bool → Builtin | true => Builtin.«max.loop» | false => Builtin.«min.loop»
def bOp : Bool → CmpOp | true => .Gt | false => .Lt
def bSel : Bool → Int × Int → Int × Int → Int × Int | true => mx2 | false => mn2
/-- is x better than y -/
def bBt : Bool → Int × Int → Int × Int → Bool | true => fun x y => lt2 y x | false => fun x y => lt2 x y
theorem bEn : ∀ b, entryFor table (bId b) = some (bLp b) | true => F.entry_max_loop | false => F.entry_min_loop
theorem bPl : ∀ b, plainId (bId b) = true | true => F.plain_max_loop | false => F.plain_min_loop
theorem bNm : ∀ b, (toString (bFn b) ++ toString ".loop" : String) = bId b | true => by decide | false => by decide
theorem bPick (b : Bool) (p q : Int × Int) : (if bBt b q p then q else p) = bSel b p q := by cases b <;> rfl
/-- the one that is kept, and where it is -/
def kept : Option (Nat × Value) → List Value | none => [] | some (_, v) => [v, v]
def pickFrom (bt : Nat → Nat → Bool) : Option Nat → Nat → Nat → Option Nat
  | o, _, 0 => o
  | none, j, k + 1 => pickFrom bt (some j) (j + 1) k
  | some i, j, k + 1 => pickFrom bt (some (if bt j i then j else i)) (j + 1) k
section
variable {prog : Program} {w : World} {A : Around} {I S : Addr} {fp wr : List Addr} {n : Nat} {P : Nat → Value → Prop} {St : Nat → Heap → Prop} {G : Heap → Prop} {bt : Nat → Nat → Bool} {R : Result → Shared → Prop}
/-- all but what the walk writes and S stays -/
def Sta (wr : List Addr) (S : Addr) (h h' : Heap) : Prop := ∀ b o, b ∉ wr → b ≠ S → h.get? b = some o → h'.get? b = some o
theorem Sta.upd {h h' : Heap} {f : Obj → Obj} (k : Sta wr S h h') : Sta wr S h (h'.update S f) := fun b o hb hs e => (Heap.get?_update_other _ _ (Ne.symm hs)).trans (k b o hb hs e)
/-- from any turn of max or min on: what is compared is known of the heap (G) -/
theorem bl_turns (b : Bool) (W : Walks prog w A.in1 I fp wr n P St) (hSf : S ∉ fp) (hG : ∀ h h', G h → Sta wr S h h' → G h')
    (hcmp : ∀ i j vi vj (s : Shared) (Q E : Value → Shared → Prop), P i vi → P j vj → G s.heap → Q (.bool (bt i j)) s → wpAny (model prog w) A.in1 (richCompare (bOp b) vi vj) Q E s) :
    ∀ (k j : Nat) (s : Shared) (o : Option (Nat × Value)) (c : Nat), n = j + k → (o = none → 0 < k) → St j s.heap → G s.heap → (∀ x, o = some x → P x.1 x.2) → s.heap.get? S = some (seqObj "list" (kept o).toArray c) →
    (∀ i v h' tk, pickFrom bt (o.map (·.1)) j k = some i → P i v → Sta wr S s.heap h' → R (.ok (.ret v)) { s with heap := h', toks := tk }) → codeAny (model prog w) A (.builtin (bId b) ⟨[.ref I, .none, .ref S], []⟩) R s := by
  have hSw : S ∉ wr := fun h => hSf (W.sub _ h)
  have fr : ∀ {i : Nat} {h' : Heap} {f : Obj → Obj}, St i h' → St i (h'.update S f) := fun st => W.frame _ _ _ st fun x hx o e => (Heap.get?_update_other _ _ (fun z : S = x => hSf (by rw [z]; exact hx))).trans e
  intro k
  induction k with
  | zero =>
    intro j s o c hn ho st _ hP hS hR
    obtain ⟨⟨i, v⟩, rfl⟩ : ∃ x, o = some x := by
      cases o with
      | none => exact absurd (ho rfl) (Nat.lt_irrefl _)
      | some x => exact ⟨x, rfl⟩
    refine codeAny_builtin (bEn b) ?_
    rw [Around.under_plainId (bPl b)]
    have go := W.done s (fun r s' => wpAny (model prog w) A.in1 (updateSeq S (fun _ => #[]) >>= fun _ => letGo [v] [v] >>= fun _ => ret v) (fun fin s'' => R (.ok (.ret v)) s'' ∧ fin = .done (.ret v)) (fun _ _ => False) s' ∧ r = none) (fun _ _ => False) (by rw [show n = j from hn]; exact st) fun h' tk k' => ⟨wpAny_bind (wpAny_updateSeq (k' S _ hSw hS) rfl (wpAny_bind (wpAny_letGo (wpAny_pure ⟨hR i v _ tk rfl (hP _ rfl) (Sta.upd fun x y hx _ e => k' x y hx e), rfl⟩))) (by show 2 ≤ _; rw [sizeLine_eq]; omega)), rfl⟩
    cases b <;> exact wpAny_bind (wpAny_seqItems hS rfl (wpAny_bind (wpAny_tryCatch (wpAny_mono go (fun r s' ⟨g, e⟩ => by subst e; exact wpAny_mono g (fun fin s'' ⟨g, e⟩ => by subst e; exact g) fun _ _ z => z.elim) fun _ _ z => z.elim))))
  | succ k ih =>
    intro j s o c hn ho st hg hP hS hR
    refine codeAny_builtin (bEn b) ?_
    rw [Around.under_plainId (bPl b)]
    have nxt : ∀ (o' : Option (Nat × Value)) (h' : Heap) (tk : Tok) (c' : Nat), o' ≠ none → St (j + 1) h' → Sta wr S s.heap h' → (∀ x, o' = some x → P x.1 x.2) → h'.get? S = some (seqObj "list" (kept o').toArray c') → pickFrom bt (o.map (·.1)) j (k + 1) = pickFrom bt (o'.map (·.1)) (j + 1) k →
        codeAny (model prog w) A (.builtin (bId b) ⟨[.ref I, .none, .ref S], []⟩) R { s with heap := h', toks := tk } := fun o' h' tk c' no st' kp hp hS' pk =>
      ih (j + 1) { s with heap := h', toks := tk } o' c' (by omega) (fun z => absurd z no) st' (hG _ _ hg kp) hp hS' fun i v h2 tk2 e1 e2 k2 => hR i v h2 tk2 (pk.trans e1) e2 fun x y hx hy e => k2 x y hx hy (kp x y hx hy e)
    have step := fun Q E q => W.item j s Q E (by omega) st q
    have nm := bNm b
    have qu := plainId_quiet (bPl b) ⟨[.ref I, .none, .ref S], []⟩
    cases o with
    | none =>
      cases b <;> (
        refine wpAny_bind (wpAny_seqItems hS rfl (wpAny_bind (wpAny_tryCatch (step _ _ fun v h' tk p1 st1 k1 => ?_))))
        refine wpAny_bind (wpAny_pure (wpAny_bind (wpAny_updateSeq (k1 S _ hSw hS) rfl ?_)))
        simp only [bFn] at nm
        rw [nm]
        exact wpAny_pure ⟨qu, nxt (some (j, v)) _ tk _ (fun z => nomatch z) (fr st1) (Sta.upd fun x y hx _ e => k1 x y hx e) (fun x e => by cases e; exact p1) (get?_update_seq (k1 S _ hSw hS) _) rfl⟩)
    | some ov =>
      obtain ⟨i, u⟩ := ov
      have cm := fun v (s' : Shared) Q E p1 (g1 : G s'.heap) q => hcmp j i v u s' Q E p1 (hP _ rfl) g1 q
      cases b <;> (
        refine wpAny_bind (wpAny_seqItems hS rfl (wpAny_bind (wpAny_tryCatch (step _ _ fun v h' tk p1 st1 k1 => ?_))))
        refine wpAny_bind (wpAny_pure (wpAny_bind (wpAny_tryCatch (m := holding _ _) (wpAny_holding (wpAny_bind (cm v _ _ _ p1 (hG _ _ hg fun x y hx _ e => k1 x y hx e) ?_))))))
        refine wpAny_bind (wpAny_holding (wpAny_truthy_bool (wpAny_bind (wpAny_letGo (wpAny_pure ?_)))))
        simp only [bFn] at nm
        cases hb : bt j i
        · rw [if_neg Bool.false_ne_true]
          refine wpAny_bind (wpAny_letGo ?_)
          rw [nm]
          exact wpAny_pure ⟨qu, nxt (some (i, u)) _ tk _ (fun z => nomatch z) st1 (fun x y hx _ e => k1 x y hx e) (fun x e => hP x e) (k1 S _ hSw hS) (by simp only [Option.map_some, pickFrom, hb, Bool.false_eq_true, if_false])⟩
        · rw [if_pos rfl]
          refine wpAny_bind (wpAny_updateSeq (k1 S _ hSw hS) rfl (wpAny_bind (wpAny_letGo ?_)) (by show 2 ≤ _; rw [sizeLine_eq]; omega))
          rw [nm]
          exact wpAny_pure ⟨qu, nxt (some (j, v)) _ tk _ (fun z => nomatch z) (fr st1) (Sta.upd fun x y hx _ e => k1 x y hx e) (fun x e => by cases e; exact p1) (get?_update_seq (k1 S _ hSw hS) _) (by simp only [Option.map_some, pickFrom, hb, if_true])⟩)
/-- max or min of three pairs -/
theorem best_pairs (b : Bool) {E : Value → Shared → Prop} {s : Shared} {x y z : Value} {p q r : Int × Int} {Q : Value → Shared → Prop} (hh : A.handled = none) (hx : PrAt s.heap x p) (hy : PrAt s.heap y q) (hz : PrAt s.heap z r) (hA : A.units + 64 < cLine)
    (h : ∀ v h' tk, (v = x ∨ v = y ∨ v = z) → PrAt s.heap v (bSel b (bSel b p q) r) → (∀ d o, s.heap.get? d = some o → h'.get? d = some o) → Q v { s with heap := h', toks := tk }) : wpAny (model prog w) A (call (.builtin (bFn b)) [x, y, z]) Q E s := by
  -- what stands behind the tuple, its iterator and the list that keeps the best
  have core : ∀ (R : Result → Shared → Prop), (∀ v s', Q v s' → R (.ok (.ret v)) s') → codeAny (model prog w) A (.builtin (bId b) ⟨[.ref (s.heap.objs.size + 1), .none, .ref (s.heap.objs.size + 2)], []⟩) R
      { s with heap := ((s.heap.push (seqObj "tuple" #[x, y, z] 0)).push { cls := .type "tuple_iterator", data := .fields #[.ref s.heap.objs.size, .int 0 0] }).push (seqObj "list" #[] 0) } := fun R hQ => by
    have z1 : (s.heap.push (seqObj "tuple" #[x, y, z] 0)).objs.size = s.heap.objs.size + 1 := Heap.size_push ..
    have z2 : ((s.heap.push (seqObj "tuple" #[x, y, z] 0)).push { cls := .type "tuple_iterator", data := .fields #[.ref s.heap.objs.size, .int 0 0] }).objs.size = s.heap.objs.size + 2 := by rw [Heap.size_push, z1]
    have up : ∀ d o, s.heap.get? d = some o → (((s.heap.push (seqObj "tuple" #[x, y, z] 0)).push { cls := .type "tuple_iterator", data := .fields #[.ref s.heap.objs.size, .int 0 0] }).push (seqObj "list" #[] 0)).get? d = some o := fun d o e => Heap.get?_push_of_some _ (Heap.get?_push_of_some _ (Heap.get?_push_of_some _ e))
    have T : (((s.heap.push (seqObj "tuple" #[x, y, z] 0)).push { cls := .type "tuple_iterator", data := .fields #[.ref s.heap.objs.size, .int 0 0] }).push (seqObj "list" #[] 0)).IsTuple s.heap.objs.size #[x, y, z] := ⟨_, Heap.get?_push_of_some _ (Heap.get?_push_of_some _ (Heap.get?_push_size _ rfl)), rfl, 0, rfl⟩
    have J : (((s.heap.push (seqObj "tuple" #[x, y, z] 0)).push { cls := .type "tuple_iterator", data := .fields #[.ref s.heap.objs.size, .int 0 0] }).push (seqObj "list" #[] 0)).IsTupleIter (s.heap.objs.size + 1) s.heap.objs.size 0 := ⟨_, Heap.get?_push_of_some _ (by rw [← z1]; exact Heap.get?_push_size _ rfl), rfl, rfl⟩
    have S : (((s.heap.push (seqObj "tuple" #[x, y, z] 0)).push { cls := .type "tuple_iterator", data := .fields #[.ref s.heap.objs.size, .int 0 0] }).push (seqObj "list" #[] 0)).get? (s.heap.objs.size + 2) = some (seqObj "list" #[] 0) := by rw [← z2]; exact Heap.get?_push_size _ rfl
    revert up T J S
    generalize ((s.heap.push (seqObj "tuple" #[x, y, z] 0)).push { cls := .type "tuple_iterator", data := .fields #[.ref s.heap.objs.size, .int 0 0] }).push (seqObj "list" #[] 0) = g
    intro up T J S
    have W := Walks.tuple (prog := prog) (w := w) (A := A.in1) hh (s.heap.objs.size + 1) s.heap.objs.size (Nat.succ_ne_self _).symm #[x, y, z]
    have keep : ∀ {h'}, Sta [s.heap.objs.size + 1] (s.heap.objs.size + 2) g h' → ∀ d o, s.heap.get? d = some o → h'.get? d = some o := fun k d o e => by
      have := Heap.lt_size e
      exact k d o (fun m => Nat.ne_of_lt (Nat.lt_succ_of_lt this) (List.mem_singleton.mp m)) (Nat.ne_of_lt (Nat.lt_of_lt_of_le this (Nat.le_add_right _ 2))) (up d o e)
    have at_ : ∀ {i v}, (#[x, y, z] : Array Value)[i]? = some v → (v = x ∨ v = y ∨ v = z) ∧ PrAt s.heap v ([p, q, r].getD i (0, 0)) := fun {i v} e => by
      rcases i with _ | _ | _ | i
      · obtain rfl : x = v := by simpa using e
        exact ⟨.inl rfl, hx⟩
      · obtain rfl : y = v := by simpa using e
        exact ⟨.inr (.inl rfl), hy⟩
      · obtain rfl : z = v := by simpa using e
        exact ⟨.inr (.inr rfl), hz⟩
      · simp at e
    refine bl_turns (n := 3) b (bt := fun i j => bBt b ([p, q, r].getD i (0, 0)) ([p, q, r].getD j (0, 0))) (G := fun h' => ∀ d o, s.heap.get? d = some o → h'.get? d = some o) W (fun m => ?_) (fun h1 h2 g1 k d o e => ?_) (fun i j vi vj s' Q' E' hi hj g1 q' => ?_) 3 0 _ none 0 rfl (fun _ => Nat.zero_lt_succ _) ⟨J, T⟩ up (fun _ e => nomatch e) S fun i v h' tk e1 e2 k => ?_
    · rcases List.mem_cons.mp m with m | m
      · exact absurd m (Nat.succ_ne_self _)
      · have : s.heap.objs.size + 2 = s.heap.objs.size := List.mem_singleton.mp m
        omega
    · have := Heap.lt_size e
      exact k d o (fun m => Nat.ne_of_lt (Nat.lt_succ_of_lt this) (List.mem_singleton.mp m)) (Nat.ne_of_lt (Nat.lt_of_lt_of_le this (Nat.le_add_right _ 2))) (g1 d o e)
    · have a1 := (at_ hi).2.keep fun d o _ e => g1 d o e
      have a2 := (at_ hj).2.keep fun d o _ e => g1 d o e
      have u : A.in1.units < cLine := show A.units + 1 < cLine by omega
      cases b with
      | true => exact rcp_gt a1 a2 u q'
      | false => exact rcp_lt a1 a2 u q'
    · obtain ⟨w1, w2⟩ := at_ e2
      refine hQ v _ (h v h' tk w1 ?_ (keep k))
      have e3 : [p, q, r].getD i (0, 0) = bSel b (bSel b p q) r := by
        rw [← bPick b p q, ← bPick b _ r]
        simp only [Option.map_none, pickFrom, List.getD_cons_zero, List.getD_cons_succ] at e1
        by_cases c1 : bBt b q p = true
        · rw [if_pos c1] at e1 ⊢
          by_cases c2 : bBt b r q = true
          · rw [if_pos (by simpa using c2)] at e1
            rw [if_pos c2]
            cases e1
            rfl
          · rw [if_neg (by simpa using c2)] at e1
            rw [if_neg c2]
            cases e1
            rfl
        · rw [if_neg c1] at e1 ⊢
          by_cases c2 : bBt b r p = true
          · rw [if_pos (by simpa using c2)] at e1
            rw [if_pos c2]
            cases e1
            rfl
          · rw [if_neg (by simpa using c2)] at e1
            rw [if_neg c2]
            cases e1
            rfl
      rw [← e3]
      exact w2
  have nm := bNm b
  have z1 : (s.heap.push (seqObj "tuple" #[x, y, z] 0)).objs.size = s.heap.objs.size + 1 := Heap.size_push ..
  have z2 : ((s.heap.push (seqObj "tuple" #[x, y, z] 0)).push { cls := .type "tuple_iterator", data := .fields #[.ref s.heap.objs.size, .int 0 0] }).objs.size = s.heap.objs.size + 2 := by rw [Heap.size_push, z1]
  rw [← z1, ← z2] at core
  cases b with
  | true =>
    refine call_function_tree F.kind_max F.plain_max F.entry_max (F.args_max3 _ _ _) (wpAny_bind (m := Builtin.Builtins.bindParams "max" ["key", "default"] 0 ⟨[], []⟩) (wpAny_of_eq (a := [none, none]) rfl (wpAny_bind (m := newTuple [x, y, z]) (wpAny_newTuple (wpAny_bind (wpAny_pyIter_tuple ⟨_, Heap.get?_push_size _ rfl, rfl, 0, rfl⟩ (wpAny_bind (wpAny_newList ?_))))))))
    simp only [bFn] at nm
    rw [nm]
    exact wpAny_pure ⟨plainId_quiet (bPl true) _, core _ fun _ _ q => q⟩
  | false =>
    refine call_function_tree F.kind_min F.plain_min F.entry_min (F.args_min3 _ _ _) (wpAny_bind (m := Builtin.Builtins.bindParams "min" ["key", "default"] 0 ⟨[], []⟩) (wpAny_of_eq (a := [none, none]) rfl (wpAny_bind (m := newTuple [x, y, z]) (wpAny_newTuple (wpAny_bind (wpAny_pyIter_tuple ⟨_, Heap.get?_push_size _ rfl, rfl, 0, rfl⟩ (wpAny_bind (wpAny_newList ?_))))))))
    simp only [bFn] at nm
    rw [nm]
    exact wpAny_pure ⟨plainId_quiet (bPl false) _, core _ fun _ _ q => q⟩
end
section
variable {X : Cx}
theorem vals3 {x y z : V} {us : List Value} (r : Vals [x, y, z] us) : ∃ u v w', us = [u, v, w'] ∧ RelV x u ∧ RelV y v ∧ RelV z w' := by
  cases r with
  | cons r1 r2 =>
    obtain ⟨v, w', rfl, h2, h3⟩ := vals2 r2
    exact ⟨_, _, _, rfl, r1, h2, h3⟩
theorem Inv.pair {pins : List (Addr × Obj)} {σ : St} {H : Hp} {s : Shared} {x : V} {u : Value} {p : Int × Int} (I : Inv X pins σ H s) (r : RelV x u) (t : TupI X.K H x [p.1, p.2]) : PrAt s.heap u p := by
  obtain ⟨a, rfl, h⟩ := t
  cases r
  obtain ⟨its, rv, hp, _⟩ := I.tuple h
  obtain ⟨v, w', rfl, ⟨t1, rfl⟩, ⟨t2, rfl⟩⟩ := vals2 rv
  exact ⟨a, t1, t2, rfl, hp⟩
def rBest (K : PySem.W.Frag) (f : Int × Int → Int × Int → Int × Int) : List V → Hp → VK → Prop := fun xs H Q => ∃ x y z p q r, xs = [x, y, z] ∧ TupI K H x [p.1, p.2] ∧ TupI K H y [q.1, q.2] ∧ TupI K H z [r.1, r.2] ∧
  ((f (f p q) r = p → Q x H) ∧ (f (f p q) r = q → Q y H) ∧ (f (f p q) r = r → Q z H))
theorem PrAt.one {h : Heap} {v : Value} {m n : Int × Int} (a : PrAt h v m) (b : PrAt h v n) : m = n := by
  obtain ⟨a1, t1, t2, rfl, o1, g1, _, n1, d1⟩ := a
  obtain ⟨a2, t3, t4, e2, o2, g2, _, n2, d2⟩ := b
  cases e2
  rw [g1] at g2
  cases g2
  rw [d1] at d2
  obtain ⟨m1, m2⟩ := m
  obtain ⟨l1, l2⟩ := n
  cases d2
  rfl
theorem call_best3 (b : Bool) (hc : X.calm = true) (hu : X.A.units + 64 < cLine) : CallR X (.builtin (bFn b)) (rBest X.K (bSel b)) := by
  intro pins s σ H xs us Q I r h
  obtain ⟨x, y, z, p, q, r', rfl, h1, h2, h3, k1, k2, k3⟩ := h
  obtain ⟨u, v, w', rfl, r1, r2, r3⟩ := vals3 r
  refine best_pairs b (I.ok.hd hc) (I.pair r1 h1) (I.pair r2 h2) (I.pair r3 h3) hu fun v' h' tk e pa k => ?_
  rcases e with rfl | rfl | rfl
  · exact ⟨x, H, I.kept k, r1, k1 (pa.one (I.pair r1 h1))⟩
  · exact ⟨y, H, I.kept k, r2, k2 (pa.one (I.pair r2 h2))⟩
  · exact ⟨z, H, I.kept k, r3, k3 (pa.one (I.pair r3 h3))⟩
theorem call_max3 (hc : X.calm = true) (hu : X.A.units + 64 < cLine) : CallR X (.builtin "max") (rBest X.K mx2) := call_best3 true hc hu
theorem call_min3 (hc : X.calm = true) (hu : X.A.units + 64 < cLine) : CallR X (.builtin "min") (rBest X.K mn2) := call_best3 false hc hu
theorem op_leP (hu : X.A.units + 64 < cLine) : OpR X (compareOp .LtE) (fun x y H Q => ∃ p q : Int × Int, TupI X.K H x [p.1, p.2] ∧ TupI X.K H y [q.1, q.2] ∧ Q (.bl (decide (p.1 < q.1 ∨ (p.1 = q.1 ∧ p.2 ≤ q.2)))) H) := by
  intro pins s σ H x y v u Q I rx ry h
  obtain ⟨p, q, h1, h2, k⟩ := h
  show wpAny _ _ (richCompare .LtE v u) _ _ s
  exact rcp_le (I.pair rx h1) (I.pair ry h2) (by omega) ⟨V.bl _, H, I, rfl, k⟩
end
end L2

set_option linter.all false
set_option maxRecDepth 100000
namespace L2
open PySem PySem.Spec PyProof.Rows
/-- a def within a class -/
structure FnI (K : PySem.W.Frag) (x qual : Str) (st : Stmt) (f : Addr) (fd : FuncData) (ps : List Str) : Prop where
  F : Fun K x qual st f fd
  b : Binds K fd ps []
section
variable {X : Cx}
/-- x is not None -/
theorem op_isnot_non : OpR X (compareOp .IsNot) (fun x y H Q => y = .non ∧ ((x = .non ∧ Q (.bl false) H) ∨ ∃ a, x = .ref a ∧ Q (.bl true) H)) := by
  intro pins s σ H x y v u Q I rx ry h
  obtain ⟨rfl, h⟩ := h
  cases ry
  rcases h with ⟨rfl, q⟩ | ⟨a, rfl, q⟩
  · cases rx
    exact PySem.wpAny_isNot_plain (by rfl) (fin_bl I q (by rfl))
  · cases rx
    exact PySem.wpAny_isNot_plain (by rfl) (fin_bl I q (by rfl))
end
section
variable {K : PySem.W.Frag} {σ : St} {H : Hp} {D : Ends} {rest : TS} {ta te : TE} {a C dx : Addr} {fs : List (Str × V)} {f : Str} {v : V}
theorem pu_fld (h : Pu ta σ H (.ref a)) (ha : H a = some (.ins C dx fs)) (c : Cls K C) (n : NoAttr K C f) (l : fs.lookup f = some v) : Pu (tFld K ta f) σ H v := fun _ q => h _ ⟨a, C, dx, fs, v, rfl, ha, c, n, l, q⟩
theorem st_fld {R : V → Hp → Prop} (he : Gv te σ H R) (c : Cls K C) (n : NoAttr K C f) (q : ∀ v H', R v H' → Pu ta σ H' (.ref a) ∧ ∃ dx fs, H' a = some (.ins C dx fs) ∧ fs.length < 1000 ∧ rest D σ (upd H' a (.ins C dx (putF f v fs)))) : tSeq (sFld K ta te f) rest D σ H :=
  he _ fun v H' r => (q v H' r).1 _ (by
    obtain ⟨dx, fs, h1, h2, h3⟩ := (q v H' r).2
    exact ⟨a, C, dx, fs, rfl, h1, c, n, h2, h3⟩)
theorem st_fld1 {R : V → Hp → Prop} (he : Gv te σ H R) (c : Cls K C) (n : NoAttr K C f) (q : ∀ v H', R v H' → Pu ta σ H' (.ref a) ∧ ∃ dx fs, H' a = some (.ins C dx fs) ∧ fs.length < 1000 ∧ D.nx σ (upd H' a (.ins C dx (putF f v fs)))) : sFld K ta te f D σ H :=
  he _ fun v H' r => (q v H' r).1 _ (by
    obtain ⟨dx, fs, h1, h2, h3⟩ := (q v H' r).2
    exact ⟨a, C, dx, fs, rfl, h1, c, n, h2, h3⟩)
theorem gv_make {sp : Sp} {t : TA} {vs : List V} {R : V → Hp → Prop} (h : PuA t σ H vs) (hs : ∀ x dx, H x = none → H dx = none → dx ≠ x → ∀ Q : VK, (∀ H', R (.ref x) H' → Q .non H') → sp (.ref x :: (vs ++ [])) (upd (upd H dx (.own x)) x (.ins C dx [])) Q E0) : Gv (tMake C sp [] E0 t) σ H R := fun Q q =>
  h _ fun x dx h1 h2 h3 => hs x dx h1 h2 h3 _ fun H' r => ⟨rfl, q _ _ r⟩
theorem pu_max2 {t : TA} {i j : Int} (ha : PuA t σ H [.int i, .int j]) : Pu (tCB (fun xs H Q => ∃ i j, xs = [.int i, .int j] ∧ Q (.int (if j > i then j else i)) H) t) σ H (.int (if j > i then j else i)) := fun _ q => ha _ ⟨i, j, rfl, q⟩
theorem pt_leP {tb : TE} {x y : V} {p q : Int × Int} (ha : Pu ta σ H x) (hb : Pu tb σ H y) (h1 : TupT H x [p.1, p.2]) (h2 : TupT H y [q.1, q.2]) : PuT (tTest (tOp (fun x y H Q => ∃ p q : Int × Int, TupI K H x [p.1, p.2] ∧ TupI K H y [q.1, q.2] ∧ Q (.bl (decide (p.1 < q.1 ∨ (p.1 = q.1 ∧ p.2 ≤ q.2)))) H) ta tb)) σ H (decide (p.1 < q.1 ∨ (p.1 = q.1 ∧ p.2 ≤ q.2))) :=
  pt_t fun Q f => ha _ (hb _ ⟨p, q, TupT.i h1, TupT.i h2, f⟩)
theorem pt_chn {tb tc : TE} {i j k : Int} (ha : Pu ta σ H (.int i)) (hb : Pu tb σ H (.int j)) (hc : Pu tc σ H (.int k)) : PuT (tTest (tChain (rI0 fun i j => .bl (decide (i ≤ j))) (rI0 fun i j => .bl (decide (i < j))) ta tb tc)) σ H (decide (i ≤ j) && decide (j < k)) := fun Q q =>
  ha _ (hb _ ⟨i, j, rfl, rfl, _, rfl, by
    by_cases c : i ≤ j
    · rw [if_pos (decide_eq_true c)]
      refine hc _ ⟨j, k, rfl, rfl, _, rfl, ?_⟩
      rw [decide_eq_true c, Bool.true_and] at q
      exact q
    · rw [if_neg (by simp [c])]
      rw [decide_eq_false c, Bool.false_and] at q
      exact ⟨_, rfl, q⟩⟩)
end
theorem mx2_or (a b : Int × Int) : mx2 a b = a ∨ mx2 a b = b := by
  unfold mx2
  split
  · exact .inr rfl
  · exact .inl rfl
theorem mn2_or (a b : Int × Int) : mn2 a b = a ∨ mn2 a b = b := by
  unfold mn2
  split
  · exact .inr rfl
  · exact .inl rfl
/-- the best of a pair that is told, and two that stand -/
theorem gv_bestT {K : PySem.W.Frag} {σ : St} {H : Hp} {g : Int × Int → Int × Int → Int × Int} {t1 t2 tx ty : TE} {x y : V} {i j : Int} {q r : Int × Int} (hg : ∀ a b, g a b = a ∨ g a b = b) (h1 : Pu t1 σ H (.int i)) (h2 : Pu t2 σ H (.int j)) (hx : ∀ H', Same H H' → Pu tx σ H' x) (hy : ∀ H', Same H H' → Pu ty σ H' y) (kx : TupT H x [q.1, q.2]) (ky : TupT H y [r.1, r.2]) :
    Gv (tCB (rBest K g) (tCons (tTup (tCons t1 (tCons t2 tNil))) (tCons tx (tCons ty tNil)))) σ H (fun w H' => Same H H' ∧ TupT H' w [(g (g (i, j) q) r).1, (g (g (i, j) q) r).2]) := by
  intro Q f
  show tTup (tCons t1 (tCons t2 tNil)) σ H (fun z H1 => tx σ H1 (fun u H2 => ty σ H2 (fun u' H3 => rBest K g [z, u, u'] H3 Q)))
  refine gv_tup (pa_c h1 (pa_c h2 pa_n)) (show ([] : List V).length + 2 ≤ sizeLine by decide) _ ?_
  rintro _ _ ⟨p, hp, rfl, rfl⟩
  have s : Same H (upd H p (.tup [.int i, .int j])) := Same.upd hp
  refine hx _ s _ (hy _ s _ ⟨.ref p, x, y, (i, j), q, r, rfl, TupT.i (TupT.of (ns := [i, j]) upd_same), TupT.i (kx.same s), TupT.i (ky.same s), fun e => f _ _ ⟨s, ?_⟩, fun e => f _ _ ⟨s, ?_⟩, fun e => f _ _ ⟨s, ?_⟩⟩)
  · rw [e]; exact TupT.of (ns := [i, j]) upd_same
  · rw [e]; exact kx.same s
  · rw [e]; exact ky.same s
/-- two pairs in a tuple -/
def SpT (H : Hp) (r : V) (s : (Int × Int) × (Int × Int)) : Prop := ∃ (a : Addr) (x y : V), r = .ref a ∧ H a = some (.tup [x, y]) ∧ TupT H x [s.1.1, s.1.2] ∧ TupT H y [s.2.1, s.2.2]
theorem SpT.same {H H' : Hp} {r : V} {s : (Int × Int) × (Int × Int)} (h : SpT H r s) (e : Same H H') : SpT H' r s := by
  obtain ⟨a, x, y, rfl, h1, h2, h3⟩ := h
  exact ⟨a, x, y, rfl, e _ _ h1, h2.same e, h3.same e⟩
/-- ((x, y), (z, w)) of what is told -/
theorem gv_span {σ : St} {H : Hp} {t1 t2 t3 t4 : TE} {i j k l : Int} (h1 : ∀ H', Same H H' → Pu t1 σ H' (.int i)) (h2 : ∀ H', Same H H' → Pu t2 σ H' (.int j)) (h3 : ∀ H', Same H H' → Pu t3 σ H' (.int k)) (h4 : ∀ H', Same H H' → Pu t4 σ H' (.int l)) :
    Gv (tTup (tCons (tTup (tCons t1 (tCons t2 tNil))) (tCons (tTup (tCons t3 (tCons t4 tNil))) tNil))) σ H (fun r H' => Same H H' ∧ SpT H' r ((i, j), (k, l))) := by
  have two : ([] : List V).length + 2 ≤ sizeLine := by decide
  refine gv_tupA (RA := fun vs H' => ∃ x y, vs = [x, y] ∧ Same H H' ∧ TupT H' x [i, j] ∧ TupT H' y [k, l]) (fun Q q => gv_tup (pa_c (h1 _ (Same.refl _)) (pa_c (h2 _ (Same.refl _)) pa_n)) two _ ?_) ?_
  · rintro _ _ ⟨p, hp, rfl, rfl⟩
    refine gv_tup (pa_c (h3 _ (Same.upd hp)) (pa_c (h4 _ (Same.upd hp)) pa_n)) two _ ?_
    rintro _ _ ⟨r, hr, rfl, rfl⟩
    have s1 : Same H (upd H p (.tup [.int i, .int j])) := Same.upd hp
    have s2 : Same (upd H p (.tup [.int i, .int j])) (upd (upd H p (.tup [.int i, .int j])) r (.tup [.int k, .int l])) := Same.upd hr
    exact q _ _ ⟨_, _, rfl, s1.trans s2, (TupT.of (ns := [i, j]) upd_same).same s2, TupT.of (ns := [k, l]) upd_same⟩
  · rintro _ H1 ⟨x, y, rfl, s, tx, ty⟩
    refine ⟨two, fun p hp => ?_⟩
    have s1 : Same H1 (upd H1 p (.tup [x, y])) := Same.upd hp
    exact ⟨s.trans s1, p, x, y, rfl, upd_same, tx.same s1, ty.same s1⟩
/-- [(x, y), (z, w)] of what is told -/
theorem gv_ends {σ : St} {H : Hp} {t1 t2 t3 t4 : TE} {i j k l : Int} (h1 : ∀ H', Same H H' → Pu t1 σ H' (.int i)) (h2 : ∀ H', Same H H' → Pu t2 σ H' (.int j)) (h3 : ∀ H', Same H H' → Pu t3 σ H' (.int k)) (h4 : ∀ H', Same H H' → Pu t4 σ H' (.int l)) :
    Gv (tLst (tCons (tTup (tCons t1 (tCons t2 tNil))) (tCons (tTup (tCons t3 (tCons t4 tNil))) tNil))) σ H (fun r H' => Same H H' ∧ ∃ a b c : Addr, r = .ref a ∧ H' a = some (.lst [.ref b, .ref c]) ∧ H' b = some (.tup ([i, j].map V.int)) ∧ H' c = some (.tup ([k, l].map V.int))) := by
  have two : ([] : List V).length + 2 ≤ sizeLine := by decide
  refine gv_lstA (RA := fun vs H' => ∃ x y : Addr, vs = [.ref x, .ref y] ∧ Same H H' ∧ H' x = some (.tup ([i, j].map V.int)) ∧ H' y = some (.tup ([k, l].map V.int))) (fun Q q => gv_tup (pa_c (h1 _ (Same.refl _)) (pa_c (h2 _ (Same.refl _)) pa_n)) two _ ?_) ?_
  · rintro _ _ ⟨p, hp, rfl, rfl⟩
    refine gv_tup (pa_c (h3 _ (Same.upd hp)) (pa_c (h4 _ (Same.upd hp)) pa_n)) two _ ?_
    rintro _ _ ⟨r, hr, rfl, rfl⟩
    have s1 : Same H (upd H p (.tup [.int i, .int j])) := Same.upd hp
    have s2 : Same (upd H p (.tup [.int i, .int j])) (upd (upd H p (.tup [.int i, .int j])) r (.tup [.int k, .int l])) := Same.upd hr
    exact q _ _ ⟨_, _, rfl, s1.trans s2, s2 _ _ upd_same, upd_same⟩
  · rintro _ H1 ⟨x, y, rfl, s, tx, ty⟩
    refine ⟨two, fun p hp => ?_⟩
    have s1 : Same H1 (upd H1 p (.lst [.ref x, .ref y])) := Same.upd hp
    exact ⟨s.trans s1, p, x, y, rfl, upd_same, s1 _ _ tx, s1 _ _ ty⟩
theorem inV_ints (x : Int) : ∀ ns : List Int, inV (.int x) (ns.map V.int) = decide (x ∈ ns)
  | [] => by simp [inV]
  | n :: ns => by
    have ih := inV_ints x ns
    unfold inV at ih ⊢
    rw [List.map_cons, List.any_cons, ih]
    have e : eqV (.int n) (.int x) = decide (x = n) := by
      show (n == x) = _
      rw [Bool.beq_eq_decide_eq]
      by_cases z : n = x
      · simp [z]
      · simp [z, Ne.symm z]
    rw [e, Bool.eq_iff_iff]
    simp
theorem pu_notIn {K : PySem.W.Frag} {σ : St} {H : Hp} {ta tb : TE} {l : Addr} {x : Int} {ns : List Int} (ha : Pu ta σ H (.int x)) (hb : Pu tb σ H (.ref l)) (hl : H l = some (.lst (ns.map V.int))) : Pu (tOp (rIn K true) ta tb) σ H (.bl (!decide (x ∈ ns))) := fun _ q =>
  ha _ (hb _ ⟨l, _, rfl, .inl (SqL.of hl), rfl, by rw [List.all_eq_true]; intro v hv; obtain ⟨n, _, rfl⟩ := List.mem_map.mp hv; rfl, by rw [inV_ints]; exact q⟩)
theorem apart_is3 {a b c d C : Int} {p q : Pt3} (hC : 0 < C) (hp : Is3 a b C p) (hq : Is3 c d C q) (h : ¬ (a = c ∧ b = d)) : Apart p q := by
  rintro ⟨e1, e2⟩
  obtain ⟨m, hm, a1, a2, a3⟩ := hp.ex
  obtain ⟨n, hn, b1, b2, b3⟩ := hq.ex
  refine h ⟨Int.eq_of_mul_eq_mul_right (Int.ne_of_gt hC) ?_, Int.eq_of_mul_eq_mul_right (Int.ne_of_gt hC) ?_⟩
  · have f1 : a * C = (m * n) * (p.x * q.z) := by rw [a1, b3]; grind
    have f2 : c * C = (m * n) * (q.x * p.z) := by rw [b1, a3]; grind
    rw [f1, f2, e1]
  · have f1 : b * C = (m * n) * (p.y * q.z) := by rw [a2, b3]; grind
    have f2 : d * C = (m * n) * (q.y * p.z) := by rw [b2, a3]; grind
    rw [f1, f2, e2]
/-- a Track -/
def TrackAt (C : Addr) (H : Hp) (v : V) (b0 b1 f0 f1 m L : Int) : Prop := ∃ (x dx ab af : Addr) (fs : List (Str × V)), v = .ref x ∧ H x = some (.ins C dx fs) ∧ fs.lookup ("begin" : Str) = some (.ref ab) ∧ fs.lookup ("far" : Str) = some (.ref af) ∧ fs.lookup ("half" : Str) = some (.int m) ∧ fs.lookup ("length" : Str) = some (.int L) ∧
  H ab = some (.tup ([b0, b1].map V.int)) ∧ H af = some (.tup ([f0, f1].map V.int))
theorem TrackAt.same {C : Addr} {H H' : Hp} {v : V} {b0 b1 f0 f1 m L : Int} (h : TrackAt C H v b0 b1 f0 f1 m L) (e : Same H H') : TrackAt C H' v b0 b1 f0 f1 m L := by
  obtain ⟨x, dx, ab, af, fs, rfl, h1, h2, h3, h4, h5, h6, h7⟩ := h
  exact ⟨x, dx, ab, af, fs, rfl, e _ _ h1, h2, h3, h4, h5, e _ _ h6, e _ _ h7⟩
end L2

set_option linter.all false
set_option maxRecDepth 100000
namespace L2
open PySem PySem.StrLaws PySem.Builtin PySem.Builtin.Str
/-! ### texts: what is joined is split again -/
end L2

set_option linter.all false
set_option maxRecDepth 100000
namespace L2
open PySem PySem.StrLaws PySem.Builtin PySem.Builtin.Str PySem.NumText PyProof.Rows
/-! ### numbers as texts -/
end L2

set_option linter.all false
set_option maxRecDepth 100000
namespace L2
open PySem PySem.Spec PyProof.Rows
/-! texts: methods, slices, f-strings, iteration -/
end L2

set_option linter.all false
set_option maxRecDepth 100000
namespace L2
open PySem PySem.Spec PyProof.Rows
end L2

set_option linter.all false
set_option maxRecDepth 100000
set_option maxHeartbeats 4000000
namespace L2
open PySem PySem.Spec PyProof.Rows
/-! ### a comprehension whose element may raise -/
/-! the heap behind a raise within a comprehension -/
end L2

set_option linter.all false
set_option maxRecDepth 100000
namespace L2
open PySem PySem.StrLaws PySem.Builtin PySem.Builtin.Str PyProof.Rows
/-! ### fractions, points and their texts -/
/-! ### readings of texts -/
/-! ### reading a number -/
/-! ### numbers too long to be read -/
end L2

set_option linter.all false
set_option maxRecDepth 100000
set_option maxHeartbeats 4000000
namespace L2
open PySem PySem.Spec PyProof.Rows
/-! ### a written dict of the top: words to objects of the top -/
/-! ### zip of two tuples, of the call or of the top -/
end L2

set_option linter.all false
set_option maxRecDepth 100000
set_option maxHeartbeats 4000000
namespace L2
open PySem PySem.Spec PyProof.Rows
/-! ### a loop whose body may raise -/
end L2

set_option linter.all false
set_option maxRecDepth 100000
set_option maxHeartbeats 4000000
namespace L2
open PySem PySem.Spec PyProof.Rows
/-! ### things of any kind -/
/-! ### kinds -/
/-! ### text times number -/
end L2

set_option linter.all false
set_option maxRecDepth 100000
set_option maxHeartbeats 4000000
namespace L2
open PySem PySem.StrLaws PySem.Builtin PySem.Builtin.Str PyProof.Rows
/-! ### shapes -/
/-! ### which things are wishes -/
/-! ### wishes -/
namespace Wi
end Wi
/-! ### texts -/
/-! ### the written dict of the shapes -/
end L2

set_option linter.all false
set_option maxRecDepth 100000
set_option maxHeartbeats 4000000
namespace L2
open PySem PySem.Spec PyProof.Rows
end L2

set_option linter.all false
set_option maxRecDepth 100000
set_option maxHeartbeats 4000000
namespace L2
open PySem PySem.StrLaws PySem.Builtin PySem.Builtin.Str PyProof.Rows
/-! ### wishes by their parts -/
namespace Pa
end Pa
namespace Wi
end Wi
/-! ### wishes laid hold no lists -/
end L2

set_option linter.all false
set_option maxRecDepth 100000
set_option maxHeartbeats 4000000
namespace L2
open PySem PySem.Spec PyProof.Rows
end L2

set_option linter.all false
set_option maxRecDepth 100000
set_option maxHeartbeats 4000000
namespace L2
open PySem PySem.Spec PyProof.Rows
/-! ### lists of pairs as tables -/
section
variable {κ : Type} [DecidableEq κ]
def valV (kvs : List (κ × V)) (k : κ) : Option V := (kvs.find? fun kv => decide (kv.1 = k)).map (·.2)
/-- in its place, or at the end -/
def putK (kvs : List (κ × V)) (k : κ) (v : V) : List (κ × V) :=
  if (kvs.any fun kv => decide (kv.1 = k)) = true then kvs.map (fun kv => if kv.1 = k then (kv.1, v) else kv) else kvs ++ [(k, v)]

theorem valV_pos {p : κ × V} {r : List (κ × V)} {k : κ} (e : p.1 = k) : valV (p :: r) k = some p.2 := by simp [valV, List.find?_cons, e]
theorem valV_neg {p : κ × V} {r : List (κ × V)} {k : κ} (e : ¬ p.1 = k) : valV (p :: r) k = valV r k := by simp [valV, List.find?_cons, e]
theorem valV_any (k : κ) : ∀ kvs : List (κ × V), (kvs.any fun kv => decide (kv.1 = k)) = (valV kvs k).isSome
  | [] => rfl
  | p :: r => by
    rw [List.any_cons]
    by_cases e : p.1 = k
    · simp only [valV_pos e, decide_eq_true e, Bool.true_or, Option.isSome_some]
    · rw [valV_neg e, decide_eq_false e, Bool.false_or]; exact valV_any k r
theorem length_putK (kvs : List (κ × V)) (k : κ) (v : V) : (putK kvs k v).length ≤ kvs.length + 1 := by
  unfold putK
  split
  · rw [List.length_map]; omega
  · rw [List.length_append, List.length_cons, List.length_nil]; omega

theorem RelO.isSome_eq {o : Option V} {u : Option Value} (r : RelO o u) : o.isSome = u.isSome := by
  cases o with
  | none => cases u with
    | none => rfl
    | some _ => exact (show False from r).elim
  | some _ => cases u with
    | none => exact (show False from r).elim
    | some _ => rfl

/-- raw tables of the same keys -/
theorem KV.val {kvs : List (κ × V)} {vs : List (κ × Value)} (r : KV kvs vs) (k : κ) : RelO (valV kvs k) (valueAt vs k) := by
  unfold KV at r
  induction r with
  | nil => exact True.intro
  | @cons p q ps qs h t ih =>
    obtain ⟨h1, h2⟩ := h
    by_cases e : p.1 = k
    · have e' : q.1 = k := h1.symm.trans e
      have b : valueAt (q :: qs) k = some q.2 := by simp [valueAt, List.find?_cons, e']
      rw [valV_pos e, b]; exact h2
    · have e' : ¬ q.1 = k := fun z => e (h1.trans z)
      have b : valueAt (q :: qs) k = valueAt qs k := by simp [valueAt, List.find?_cons, e']
      rw [valV_neg e, b]; exact ih
theorem KV.any {kvs : List (κ × V)} {vs : List (κ × Value)} (r : KV kvs vs) (k : κ) : (kvs.any fun kv => decide (kv.1 = k)) = vs.any fun kv => decide (kv.1 = k) := by
  unfold KV at r
  induction r with
  | nil => rfl
  | cons h t ih => rw [List.any_cons, List.any_cons, ih, h.1]
theorem KV.repl {kvs : List (κ × V)} {vs : List (κ × Value)} (r : KV kvs vs) (k : κ) {y : V} {u : Value} (ry : RelV y u) :
    KV (kvs.map fun kv => if kv.1 = k then (kv.1, y) else kv) (vs.map fun kv => if kv.1 = k then (kv.1, u) else kv) := by
  unfold KV at r ⊢
  induction r with
  | nil => exact .nil
  | @cons p q ps qs h t ih =>
    rw [List.map_cons, List.map_cons]
    refine .cons ?_ ih
    obtain ⟨h1, h2⟩ := h
    by_cases e : p.1 = k
    · rw [if_pos e, if_pos (h1.symm.trans e)]; exact ⟨h1, ry⟩
    · rw [if_neg e, if_neg (fun z => e (h1.trans z))]; exact ⟨h1, h2⟩
theorem KV.put {kvs : List (κ × V)} {vs : List (κ × Value)} (r : KV kvs vs) (k : κ) {y : V} {u : Value} (ry : RelV y u) : KV (putK kvs k y) (stored vs k u) := by
  unfold putK stored
  rw [r.any k]
  by_cases e : (vs.any fun kv => decide (kv.1 = k)) = true
  · rw [if_pos e, if_pos e]; exact r.repl k ry
  · rw [if_neg e, if_neg e]; exact Paired.snoc r ⟨rfl, ry⟩
theorem KV.length {kvs : List (κ × V)} {vs : List (κ × Value)} (r : KV kvs vs) : kvs.length = vs.length := Paired.length r
end


/-! ### a tracked dict, its keys ints and texts or tuples of these -/
theorem kV_is {P : Program} {w : World} {k : Key} {u : Value} (r : RelV (kV k) u) : (mixKind P w).is k u = true := by
  cases k with
  | inl i => obtain ⟨t, e⟩ := (show ∃ t, u = Value.int i t from r); subst e; exact mixKind_int P w i t
  | inr x => obtain ⟨t, e⟩ := (show ∃ t, u = Value.str x t from r); subst e; exact mixKind_str P w x t
theorem items_are {P : Program} {w : World} : ∀ {ks : List Key} {us : List Value}, Vals (ks.map kV) us → ItemsAre (mixKind P w) ks us
  | [], _, r => by rw [List.map_nil] at r; cases r; exact .nil
  | k :: ks, _, r => by
    rw [List.map_cons] at r
    cases r with
    | cons h t => exact .cons (kV_is h) (items_are t)

/-- raw entries of a dict with tuple keys -/
abbrev KT (H : Hp) : List (List Key × V) → List (List Key × Addr × Value) → Prop := Paired fun p q => p.1 = q.1 ∧ H q.2.1 = some (.tup (p.1.map kV)) ∧ RelV p.2 q.2.2
theorem KT.val {H : Hp} {kvs : List (List Key × V)} {xs : List (List Key × Addr × Value)} (r : KT H kvs xs) (k : List Key) : RelO (valV kvs k) ((atKey xs k).map (·.2)) := by
  induction r with
  | nil => exact True.intro
  | @cons p q ps qs h t ih =>
    obtain ⟨h1, _, h2⟩ := h
    by_cases e : p.1 = k
    · have e' : q.1 = k := h1.symm.trans e
      have b : atKey (q :: qs) k = some q.2 := by simp [atKey, List.find?_cons, e']
      rw [valV_pos e, b]; exact h2
    · have e' : ¬ q.1 = k := fun z => e (h1.trans z)
      have b : atKey (q :: qs) k = atKey qs k := by simp [atKey, List.find?_cons, e']
      rw [valV_neg e, b]; exact ih
theorem KT.repl {H : Hp} {kvs : List (List Key × V)} {xs : List (List Key × Addr × Value)} (r : KT H kvs xs) (k : List Key) {y : V} {u : Value} (ry : RelV y u) :
    KT H (kvs.map fun kv => if kv.1 = k then (kv.1, y) else kv) (xs.map (putAt k u)) := by
  induction r with
  | nil => exact .nil
  | @cons p q ps qs h t ih =>
    rw [List.map_cons, List.map_cons]
    refine .cons ?_ ih
    obtain ⟨h1, h2, h3⟩ := h
    unfold putAt
    by_cases e : p.1 = k
    · rw [if_pos e, if_pos (h1.symm.trans e)]; exact ⟨h1, h2, ry⟩
    · rw [if_neg e, if_neg (fun z => e (h1.trans z))]; exact ⟨h1, h2, h3⟩
theorem KT.put {H : Hp} {kvs : List (List Key × V)} {xs : List (List Key × Addr × Value)} (r : KT H kvs xs) (k : List Key) {b : Addr} {y : V} {u : Value} (hb : H b = some (.tup (k.map kV))) (ry : RelV y u) :
    KT H (putK kvs k y) (storedH xs k b u) := by
  have e : (kvs.any fun kv => decide (kv.1 = k)) = (atKey xs k).isSome := by
    rw [valV_any, (r.val k).isSome_eq, Option.isSome_map]
  unfold putK storedH
  rw [e]
  by_cases q : (atKey xs k).isSome = true
  · rw [if_pos q, if_pos q]; exact r.repl k ry
  · rw [if_neg q, if_neg q]; exact Paired.snoc r ⟨rfl, hb, ry⟩
theorem KT.keeps {H H' : Hp} {kvs : List (List Key × V)} {xs : List (List Key × Addr × Value)} (r : KT H kvs xs) (ht : ∀ b ys, H b = some (.tup ys) → H' b = some (.tup ys)) : KT H' kvs xs :=
  Paired.mapP r fun _ _ z => ⟨z.1, ht _ _ z.2.1, z.2.2⟩

section
variable {P : Program} {w : World} {H : Hp} {h : Heap} {a : Addr}
theorem rd_of {u : HO} (ok : HOk P w H h) (e : Rd H a u) : ObjOk P w H h a u := e.ok ok
theorem dk_rd {kvs : List (Key × V)} (ok : HOk P w H h) (e : Rd H a (.dK kvs)) : kvs.length ≤ sizeLine ∧ (a == sysModules) = false ∧ ∃ vs, KV kvs vs ∧ h.DictOf (mixKind P w) a vs :=
  show ObjOk P w H h a (.dK kvs) from rd_of ok e
theorem dk_of {kvs : List (Key × V)} (ok : HOk P w H h) (e : H a = some (.dK kvs)) : kvs.length ≤ sizeLine ∧ (a == sysModules) = false ∧ ∃ vs, KV kvs vs ∧ h.DictOf (mixKind P w) a vs := dk_rd ok (.inl e)
/-- a tracked tuple of ints and texts is a key -/
theorem key_of {ks : List Key} (ok : HOk P w H h) (e : H a = some (.tup (ks.map kV))) : (tupleKind (mixKind P w)).is h ks a := by
  obtain ⟨_, its, r, o, h1, h2, n, h3⟩ := (show ObjOk P w H h a (.tup (ks.map kV)) from ok a _ e)
  exact ⟨o, its.toArray, n, h1, h2, h3, by simpa using items_are r⟩
theorem dt_rd {kvs : List (List Key × V)} (ok : HOk P w H h) (e : Rd H a (.dT kvs)) : kvs.length ≤ sizeLine ∧ (a == sysModules) = false ∧
    ∃ xs, KT H kvs xs ∧ h.DictOfH (tupleKind (mixKind P w)) a xs := by
  obtain ⟨z, y, xs, r, o, es, ep, h1, h2, h3, h4, h5⟩ := (show ObjOk P w H h a (.dT kvs) from rd_of ok e)
  refine ⟨z, y, xs, r, o, es, ep, h1, h2, h3, h4, fun x hx => ?_, h5⟩
  have all : ∀ {l : List (List Key × V)} {m : List (List Key × Addr × Value)}, KT H l m → ∀ x ∈ m, (tupleKind (mixKind P w)).is h x.1 x.2.1 := by
    intro l m q
    induction q with
    | nil => intro x hx; exact nomatch hx
    | @cons p q ps qs hq t ih =>
      intro x hx
      rcases List.mem_cons.mp hx with e | hx
      · subst e
        exact key_of ok (by rw [← hq.1]; exact hq.2.1)
      · exact ih x hx
  exact all r x hx
theorem dt_of {kvs : List (List Key × V)} (ok : HOk P w H h) (e : H a = some (.dT kvs)) : kvs.length ≤ sizeLine ∧ (a == sysModules) = false ∧
    ∃ xs, KT H kvs xs ∧ h.DictOfH (tupleKind (mixKind P w)) a xs := dt_rd ok (.inl e)
end

/-- what the dict at a holds at the key y -/
def DGet (H : Hp) (a : Addr) (y : V) (r : Option V) : Prop :=
  (∃ kvs k, Rd H a (.dK kvs) ∧ y = kV k ∧ r = valV kvs k) ∨ ∃ kvs k b, Rd H a (.dT kvs) ∧ y = .ref b ∧ H b = some (.tup (k.map kV)) ∧ r = valV kvs k
/-- the heap behind a[y] = v -/
def DPut (H : Hp) (a : Addr) (y v : V) (H' : Hp) : Prop :=
  (∃ kvs k, H a = some (.dK kvs) ∧ y = kV k ∧ kvs.length < sizeLine ∧ H' = upd H a (.dK (putK kvs k v))) ∨
  ∃ kvs k b, H a = some (.dT kvs) ∧ y = .ref b ∧ H b = some (.tup (k.map kV)) ∧ kvs.length < sizeLine ∧ H' = upd H a (.dT (putK kvs k v))
theorem DGet.t {H : Hp} {a b : Addr} {kvs : List (List Key × V)} {k : List Key} (e : H a = some (.dT kvs)) (eb : H b = some (.tup (k.map kV))) : DGet H a (.ref b) (valV kvs k) := .inr ⟨kvs, k, b, .inl e, rfl, eb, rfl⟩
theorem DPut.t {H : Hp} {a b : Addr} {kvs : List (List Key × V)} {k : List Key} {v : V} (e : H a = some (.dT kvs)) (eb : H b = some (.tup (k.map kV))) (hl : kvs.length < sizeLine) :
    DPut H a (.ref b) v (upd H a (.dT (putK kvs k v))) := .inr ⟨kvs, k, b, e, rfl, eb, hl, rfl⟩


section
variable {X : Cx} {pins : List (Addr × Obj)} {σ : St} {H : Hp} {s : Shared} {a : Addr} {y v : V} {u r : Value} {o : Option V} {A : Around} {E : Value → Shared → Prop}

theorem Inv.big (I : Inv X pins σ H s) : sysModules < s.heap.objs.size := by
  have h : mainGlobals < s.heap.objs.size := (I.mod.glob.keeps I.bk).lt
  exact Nat.lt_trans (by decide) h

/-- d[y], there -/
theorem d_getItem {Q : Value → Shared → Prop} (hu : A.units + 1 < cLine) (I : Inv X pins σ H s) (g : DGet H a y (some v)) (ry : RelV y u) (h : ∀ w' s', Inv X pins σ H s' → RelV v w' → Q w' s') :
    wpAny (model X.prog X.w) A (getItem (.ref a) u) Q E s := by
  rcases g with ⟨kvs, k, e, ey, l⟩ | ⟨kvs, k, b, e, ey, eb, l⟩
  · subst ey
    obtain ⟨z, hd, vs, rel, dd⟩ := dk_rd I.hok e
    obtain ⟨w', hw, rw'⟩ := RelO.some_of (v := v) (o := valueAt vs k) (by rw [l]; exact rel.val k)
    exact wpAny_getItem_of (kV_is ry) dd.mapOf hw (h w' _ (I.tok _) rw')
  · subst ey
    cases (show u = Value.ref b from ry)
    obtain ⟨z, hd, xs, rel, dd⟩ := dt_rd I.hok e
    obtain ⟨w', hw, rw'⟩ := RelO.some_of (v := v) (o := (atKey xs k).map (·.2)) (by rw [l]; exact rel.val k)
    obtain ⟨p, hp, hp2⟩ := Option.map_eq_some_iff.mp hw
    refine wpAny_getItem_heap (tupleKind_room_in1 hu) (key_of I.hok eb) dd hp ?_
    rw [hp2]
    exact h w' _ (I.tok _) rw'
/-- a dict's object is replaced -/
theorem d_write {h' : Heap} {t' : Nat} {ob : HO} (I : Inv X pins σ H s) (mu : Mut (H a)) (hs : Heap.SameBut a s.heap h') (he : ∃ q, h'.get? a = some q) (new : ObjOk X.prog X.w (upd H a ob) h' a ob) :
    Inv X pins σ (upd H a ob) { s with heap := h', toks := t' } :=
  I.write (x := a) (e := a) mu (.inl rfl) (fun b q hb z => (hs.2 b hb).trans z) he new
theorem dk_new {P : Program} {w : World} {H' : Hp} {h' : Heap} {kvs : List (Key × V)} {vs : List (Key × Value)} (z : kvs.length ≤ sizeLine) (hd : (a == sysModules) = false) (rel : KV kvs vs) (dd : h'.DictOf (mixKind P w) a vs) :
    ObjOk P w H' h' a (.dK kvs) := ⟨z, hd, vs, rel, dd⟩
/-- d[y] = v -/
theorem d_setItem {H' : Hp} {Q : Unit → Shared → Prop} (hu : A.units + 1 < cLine) (I : Inv X pins σ H s) (g : DPut H a y v H') (ry : RelV y u) (rv : RelV v r) (h : ∀ s', Inv X pins σ H' s' → Q () s') :
    wpAny (model X.prog X.w) A (setItem (.ref a) u r) Q E s := by
  rcases g with ⟨kvs, k, e, ey, l, eH⟩ | ⟨kvs, k, b, e, ey, eb, l, eH⟩
  · subst ey eH
    obtain ⟨z, hd, vs, rel, dd⟩ := dk_of I.hok e
    have hz : vs.length ≤ sizeLine := by rw [← rel.length]; exact z
    have hl : (putK kvs k v).length ≤ sizeLine := by have := length_putK kvs k v; omega
    refine wpAny_setItem_pairs (hsz := hz) (kV_is ry) dd fun h' dd' hs => h _ ?_
    have he : ∃ q, h'.get? a = some q := let ⟨q, _, _, hq, _⟩ := dd'; ⟨q, hq⟩
    exact d_write I (by rw [e]; exact True.intro) hs he (dk_new hl hd (rel.put k rv) dd')
  · subst ey eH
    cases (show u = Value.ref b from ry)
    obtain ⟨z, hd, xs, rel, dd⟩ := dt_of I.hok e
    have hz : xs.length ≤ sizeLine := by rw [← Paired.length rel]; exact z
    have hl : (putK kvs k v).length ≤ sizeLine := by have := length_putK kvs k v; omega
    refine wpAny_setItem_heap (hsz := hz) (tupleKind_room_in1 hu) (key_of I.hok eb) dd fun h' dd' hs => h _ ?_
    obtain ⟨q, es, ep, hq, h2, h3, h4, _, h5⟩ := dd'
    refine d_write I (by rw [e]; exact True.intro) hs ⟨q, hq⟩ ⟨hl, hd, _, (rel.put k eb rv).keeps fun c ys ec => ?_, q, es, ep, hq, h2, h3, h4, h5⟩
    rw [upd_ne (ne_of ec e (fun z => nomatch z))]
    exact ec
end



/-! ### readings and rules -/
/-- the element of a subscription, not a slice -/
def NoSl (i : Expr) : Prop := ∀ ov iv, subscripted i false ov iv = operate [ov, iv] (getItem ov iv)
theorem subD_of {prog : Program} {w : World} {A : Around} {E : Value → Shared → Prop} {s : Shared} {env : Env} {value slice : Expr} {pos : Pos} {T id : String} {Q : Value → Shared → Prop}
    (hl : typeLookup (.type T) "__getitem__" = pure (some (.builtin id))) (hs : NoSl slice)
    (h : wpAny (model prog w) A (eval value env) (fun o s₁ => wpAny (model prog w) A (eval slice env) (fun i s₂ => s₂.TypeIs o T ∧ wpAny (model prog w) A (getItem o i) Q E s₂) E s₁) E s) :
    wpAny (model prog w) A (eval (.Subscript value slice pos) env) Q E s := by
  refine Subscript_ (wpAny_mono h (fun o s₁ h₁ => wpAny_mono h₁ (fun i s₂ h₂ => ?_) fun _ _ x => x) fun _ _ x => x)
  obtain ⟨hT, h₂⟩ := h₂
  unfold subscriptTail
  refine wpAny_bind ?_
  rw [getitemInPython_of_ne hT.not_modules]
  refine wpAny_bind (wpAny_specialOf hT hl ?_)
  have fin : wpAny (model prog w) A (subscripted slice false o i) (fun r s₃ => wpAny (model prog w) A (letTemporaryGo value o r >>= fun _ => pure r) Q E s₃) E s₂ := by
    rw [hs o i]
    exact wpAny_operating (wpAny_mono h₂ (fun r s₃ h₃ => wpAny_bind (wpAny_letTemporaryGo (wpAny_pure h₃))) fun _ _ x => x)
  first
    | exact wpAny_pure (wpAny_bind fin)
    | exact wpAny_bind (wpAny_pure (wpAny_bind fin))
    | exact wpAny_bind fin

theorem dict_typeIs {X : Cx} {pins : List (Addr × Obj)} {σ : St} {H : Hp} {s : Shared} {a : Addr} {y : V} {o : Option V} (I : Inv X pins σ H s) (g : DGet H a y o) : s.TypeIs (.ref a) "dict" := by
  rcases g with ⟨kvs, k, e, _, _⟩ | ⟨kvs, k, b, e, _, _, _⟩
  · obtain ⟨_, _, vs, _, dd⟩ := dk_rd I.hok e
    exact dd.typeIs
  · obtain ⟨_, _, xs, _, dd⟩ := dt_rd I.hok e
    exact dd.typeIs

/-- d[y] -/
def tDGet (td ty : TE) : TE := fun σ H Q => td σ H fun x H1 => ty σ H1 fun y H2 => ∃ a v, x = .ref a ∧ DGet H2 a y (some v) ∧ Q v H2
/-- d[y] = v -/
def sDPut (td ty tv : TE) : TS := fun D σ H => tv σ H fun v H1 => td σ H1 fun x H2 => ty σ H2 fun y H3 => ∃ a H4, x = .ref a ∧ DPut H3 a y v H4 ∧ D.nx σ H4

section
variable {X : Cx} {o i e value : Expr} {pos pos' tpos : Pos} {td ty tv : TE}
theorem pe_dget (hu : X.A.units + 1 < cLine) (ho : PE X o td) (hi : PE X i ty) (hs : NoSl i) : PE X (.Subscript o i pos) (tDGet td ty) := by
  intro pins s σ H Q I h
  refine subD_of PySem.F.slot_dict_getitem.lookup hs (thn (ho pins s σ H _ I h) fun u s1 ⟨x, H1, I1, rx, q1⟩ => thn (hi pins s1 σ H1 _ I1 q1) fun iv s2 ⟨y, H2, I2, ry, a, v, ex, g, q2⟩ => ?_)
  subst ex
  obtain rfl : u = Value.ref a := rx
  exact ⟨dict_typeIs I2 g, d_getItem hu I2 g ry fun w' s3 I3 rw' => ⟨v, H2, I3, rw', q2⟩⟩
theorem ps_dput (hu : X.A.units + 1 < cLine) (ho : PE X o td) (hi : PE X i ty) (hv : PE X value tv) (hs : swapsWith value (some (.Subscript o i pos')) pos.line X.env = pure false) :
    PS X (.Assign [.Subscript o i pos'] value pos) (sDPut td ty tv) := by
  intro pins s σ H D I h
  refine wpAny_Assign_Subscript (thn (hv pins s σ H _ I h) fun r s1 ⟨v, H1, I1, rv, q1⟩ => thn (ho pins s1 σ H1 _ I1 q1) fun u s2 ⟨x, H2, I2, rx, q2⟩ => thn (hi pins s2 σ H2 _ I2 q2) fun iv s3 ⟨y, H3, I3, ry, a, H4, ex, g, q3⟩ => ?_) hs
  subst ex
  obtain rfl : u = Value.ref a := rx
  exact d_setItem hu I3 g ry rv fun s4 I4 => ⟨σ, H4, I4, q3⟩
end


/-! ### displays -/
theorem dt_empty {P : Program} {w : World} {H : Hp} (h : Heap) (hb : sysModules < h.objs.size) : ObjOk P w H (h.push { cls := .type "dict", data := .dict #[] }) h.objs.size (.dT []) :=
  ⟨Nat.zero_le _, beq_eq_false_iff_ne.mpr (Ne.symm (Nat.ne_of_lt hb)), [], .nil, _, #[], 0, Heap.get?_push_size _ rfl, ⟨rfl, rfl, rfl⟩, rfl, rfl, List.nodup_nil⟩
def tDNewT : TE := fun _ H Q => ∀ p, H p = none → Q (.ref p) (upd H p (.dT []))
section
variable {X : Cx} {pos : Pos}
theorem pe_dnewT : PE X (.Dict [] [] pos) tDNewT := fun pins s σ H Q I h =>
  wpAny_Dict_empty ⟨.ref s.heap.objs.size, _, I.laid (a := s.heap.objs.size) (o := .dT []) (t' := s.toks) (fun _ _ q => Heap.get?_push_of_some _ q) (Nat.le_refl _) (dt_empty s.heap I.big), rfl, h _ (I.hok.fresh (Nat.le_refl _))⟩
end




/-! ### methods -/




/-! ### dict(d): a copy -/


end L2

namespace L2
open PySem PySem.Spec PyProof.Rows
/-! ### a dict's pairs: keys that differ -/
end L2

set_option linter.all false
set_option maxRecDepth 100000
set_option maxHeartbeats 4000000
namespace L2
open PySem PySem.Spec PyProof.Rows
/-! ### a comprehension with one condition -/
def tCompF (wi : TI) (fr : St → St) (g : TG) (tc : TT) (te : TE) : TE := fun σ H Q => wi σ H fun J H1 => ∀ D, H1 D = none → ∃ W : Nat → Nat → List V → Hp → Prop, (∃ m, W 0 m [] (upd H1 D (.lst []))) ∧
  ∀ i m ys H2, W i m ys H2 → (J.stop i H2 ∧ Q (.ref D) H2) ∨ (J.go i H2 ∧ ys.length < sizeLine ∧ ∀ x H3, J.yld i H2 x H3 → g x (fr σ) H3 fun σ2 H3' => KeepS (fr σ) σ2 ∧ tc σ2 H3' fun b H4 =>
    match b with
    | false => ∃ m', m' < m ∧ W (i + 1) m' ys H4
    | true => te σ2 H4 fun y H5 => H5 D = some (.lst ys) ∧ ∃ m', m' < m ∧ W (i + 1) m' (ys ++ [y]) (upd H5 D (.lst (ys ++ [y]))))
section
variable {X : Cx}
theorem pe_lcompF {tg elt iter cnd : Expr} {scope : Scope} {cl : List (Str × Addr)} {pos : Pos} {N' : List Str} {wi : TI} {fr : St → St} {g : TG} {te : TE} {tc : TT}
    (hc : X.calm = true) (hi : PI X tg iter wi)
    (hg : ∀ C fp s0 H0, PG (blk X N' scope cl C fp s0 H0) tg g) (hq : ∀ C fp s0 H0, PT (blk X N' scope cl C fp s0 H0) cnd tc) (he : ∀ C fp s0 H0, PE (blk X N' scope cl C fp s0 H0) elt te)
    (hclos : closureFor scope X.env = pure cl) (hkind : scope.kind = .function) (hnames : ∀ x ∈ scope.names, x.2 = .local → scope.names.lookup x.1 = some .local) (hcell : ∀ y ∈ scope.names, y.2 ≠ .cell)
    (hcl : ∀ y c, cl.lookup y = some c → X.env.cells.lookup y = some c) (hhas : ∀ y, ((relabel scope X.env).names.lookup y = some .cell ∨ (relabel scope X.env).names.lookup y = some .free) → ∃ c, cl.lookup y = some c)
    (hfl : ∀ σ : St, σ.length = X.N.length → (fr σ).length = N'.length)
    (hfr : ∀ (σ : St) (i : Nat) (y : Str) (v : V), N'[i]? = some y → (fr σ)[i]? = some (some v) → ∃ j : Nat, X.N[j]? = some y ∧ σ[j]? = some (some v) ∧ X.env.kindOf y = some .cell ∧ (relabel scope X.env).names.lookup y = some .cell)
    (hs : ∀ x, foldedSetIterable iter X.env x = pure x := by intro _; rfl) :
    PE X (.ListComp elt [⟨tg, iter, [cnd], 0⟩] scope pos) (tCompF wi fr g tc te) := by
  intro pins s σ H Q I h
  rw [eval_ListComp]
  refine wpAny_comprehension_free (use := none) rfl hs hclos hkind hnames ?_
  refine thn (hi pins s σ H _ I h) fun v s1 h1 => thn h1 fun itv s2 h2 => ?_
  obtain ⟨it, fp, tn, J, H2, rfl, I2, T, st2, f2, q2⟩ := h2
  have D0 : H2 s2.heap.objs.size = none := I2.hok.fresh (Nat.le_refl _)
  obtain ⟨W, ⟨m0, w0⟩, turn⟩ := q2 _ D0
  refine wpAny_newObj_type (wpAny_newFunctionEnv hcell (by intro y hy; simp at hy) (fun h₁ hns₁ hsb₁ => ?_) hkind)
  dsimp only at hns₁ hsb₁ ⊢
  have I3 : Inv X pins σ (upd H2 s2.heap.objs.size (.lst [])) { s2 with heap := s2.heap.push { cls := .type "list", dict := none, data := .seq ([] : List Value).toArray } } :=
    I2.laid (t' := s2.toks) (fun b u e => Heap.get?_push_of_some _ e) (Nat.le_refl _) ⟨Nat.zero_le _, [], _, .nil, Heap.get?_push_size _ rfl⟩
  generalize hH3 : upd H2 s2.heap.objs.size (.lst []) = H3 at I3 w0
  generalize hs3 : ({ s2 with heap := s2.heap.push { cls := .type "list", dict := none, data := .seq ([] : List Value).toArray } } : Shared) = s3 at I3
  have eh : s3.heap = s2.heap.push { cls := .type "list", dict := none, data := .seq ([] : List Value).toArray } := by rw [← hs3]
  have fl : ∀ b ∈ fp, b < s2.heap.objs.size := fun b hb => by
    obtain ⟨o, e, _⟩ := T.obj 0 _ st2 b hb
    exact Heap.lt_size e
  have fn : ∀ b ∈ fp, H3 b = none := fun b hb => by
    rw [← hH3, upd_ne (Nat.ne_of_lt (fl b hb))]; exact (f2 b hb).1
  have f3 : ∀ b ∈ fp, FpOk X pins H3 b := fun b hb => ⟨fn b hb, (f2 b hb).2⟩
  have old : ∀ b u, s3.heap.get? b = some u → h₁.get? b = some u := fun b u e => by
    refine hsb₁.extBut b u ?_ (Heap.get?_push_of_some _ (by rw [← eh]; exact e))
    have := Heap.lt_size e
    rw [eh] at this
    exact Nat.ne_of_lt this
  have up : ∀ b u, s2.heap.get? b = some u → s3.heap.get? b = some u := fun b u e => by rw [eh]; exact Heap.get?_push_of_some _ e
  have ok := blk_ok (N' := N') (scope := scope) (cl := cl) (fp := fp) I3 hkind hcl hhas f3 fun b hb => by rw [eh, Heap.size_push]; exact Nat.lt_succ_of_lt (fl b hb)
  rw [← eh] at hns₁ ⊢
  have IB : Inv (blk X N' scope cl s3.heap.objs.size fp s3 H3) [] (fr σ) H3 { s3 with heap := h₁, toks := s2.toks + ([] : List (Str × Value)).length } := by
    refine ⟨ok, rfl, I3.bare, Un.kept old, ⟨_, hns₁, fun i y v e1 e2 e3 => ?_⟩, fun x c e => ?_, I3.hok.fresh (Nat.le_refl _), fun x c e => I3.freeC x c (hcl x c e), fun p hp => by simp [blk] at hp, I3.hok.kept old, hfl σ I3.len⟩
    · obtain ⟨j, n1, n2, n3, n4⟩ := hfr σ i y v e1 e2
      obtain ⟨m, _, hl⟩ := I3.loc
      obtain ⟨u, r, l⟩ := hl j y v n1 n2 (.inr (.inl n3))
      refine ⟨u, r, .inr ⟨.inl n4, ?_⟩⟩
      rcases l with ⟨k, _⟩ | ⟨_, c, e, ic⟩
      · rw [n3] at k; cases k
      · obtain ⟨c', e'⟩ := hhas y (.inl n4)
        have e'' := hcl y c' e'
        rw [e] at e''; cases e''
        obtain ⟨o, ho, hd⟩ := ic
        exact ⟨c, e', o, old c o ho, hd⟩
    · obtain ⟨v, o, ho, hd⟩ := I3.cell x c (hcl x c e)
      exact ⟨v, o, old c o ho, hd⟩
  have stB : tn 0 h₁ := T.keep _ _ _ st2 fun b hb o e => old b o (up b o e)
  have D2 : s2.heap.objs.size < s3.heap.objs.size := by rw [eh, Heap.size_push]; exact Nat.lt_succ_self _
  have stat : ∀ {H' : Hp}, (∀ b ∈ fp, H' b = none) → ∀ b ∈ fp, FpOk (blk X N' scope cl s3.heap.objs.size fp s3 H3) [] H' b := fun hn b hb =>
    ⟨hn b hb, Nat.ne_of_lt (Nat.lt_trans (fl b hb) D2), ok.exfs b hb, .inl hb, fun x c e => (ok.exf b hb).2 x c e, fun p hp => by simp [blk] at hp⟩
  have loop : codeAny (model X.prog X.w) X.A (.compLoop (.ListComp elt [⟨tg, iter, [cnd], 0⟩] scope pos) 0 (.ref it) (.ref s2.heap.objs.size) (compEnvC scope cl s3.heap.objs.size X.env))
      (compPost (model X.prog X.w) X.A X.xe none (EP X pins σ Q) (.ref s2.heap.objs.size) s3.heap.objs.size) { s3 with heap := h₁, toks := s2.toks + ([] : List (Str × Value)).length } := by
    refine codeAny_loop rfl (fun n s' => ∃ i ys H', Inv (blk X N' scope cl s3.heap.objs.size fp s3 H3) [] (fr σ) H' s' ∧ tn i s'.heap ∧ (∀ b ∈ fp, H' b = none) ∧ W i n ys H') ?_ m0 ⟨0, [], H3, IB, stB, fn, w0⟩
    rintro n s4 ⟨i, ys, H4, I4, st4, fr4, w4⟩
    show wpAny _ _ ((compTurn (.ListComp elt [⟨tg, iter, [cnd], 0⟩] scope pos) 0 (.ref it) (.ref s2.heap.objs.size) (compEnvC scope cl s3.heap.objs.size X.env)).onRaise (fun x => do noteFrame x (compEnvC scope cl s3.heap.objs.size X.env); theTreesLotGoes x)) _ _ s4
    refine wpAny_noted ?_
    rw [compTurn_list]
    refine wpAny_bind (wpAny_standAt (wpAny_bind ?_))
    rcases turn i n ys H4 w4 with ⟨stop, qn⟩ | ⟨go, hz, step⟩
    · refine thn (T.done (blk X N' scope cl s3.heap.objs.size fp s3 H3) rfl rfl rfl hc i [] s4 (fr σ) H4 _ I4 (stat fr4) st4 stop) fun r s5 ⟨hr, I5⟩ => ?_
      subst hr
      refine wpAny_pure ?_
      obtain ⟨m, hn, _⟩ := I5.loc
      refine ⟨m, hn, fun h' sb => ⟨.ref s2.heap.objs.size, H4, ?_, rfl, qn⟩⟩
      have hb : ∀ b u, b ≠ s3.heap.objs.size → s5.heap.get? b = some u → h'.get? b = some u := fun b u n e => sb.extBut b u n e
      have hlt : ∀ b u, s3.heap.get? b = some u → b ≠ s3.heap.objs.size := fun b u e => Nat.ne_of_lt (Heap.lt_size e)
      have B := I5.base
      refine I3.call' (s' := { s5 with heap := h' }) (ch := fp) I5.os ⟨fun b o e n1 n2 n3 => hb b o (hlt b o e) (B.keep b o e n1 n2 n3), fun b o e n1 n2 n3 => ?_, B.free, fun b o e n1 => ?_, B.tups, B.frzs, B.tbls⟩ (fun a o e => ?_) I5.bare (fun b hb' => ?_)
      · obtain ⟨sl, z⟩ := B.slot b o e n1 n2 n3
        exact ⟨sl, hb b _ (hlt b o e) z⟩
      · obtain ⟨o', z⟩ := B.there b o e n1
        exact ⟨o', hb b _ (hlt b o e) z⟩
      · have nC : ∀ c u, H4 c = some u → c ≠ s3.heap.objs.size := fun c u z w => by
          have := I5.free
          rw [show (blk X N' scope cl s3.heap.objs.size fp s3 H3).env.locals = s3.heap.objs.size from rfl, ← w, z] at this
          cases this
        refine (I5.hok a o e).stay (fun c u hcu q => hb c u ?_ q) (fun _ q => q) fun _ _ q => q
        rcases hcu with z | z
        · rw [z]; exact nC a o e
        · exact nC c _ z
      · exact ⟨(f2 b hb').2.2.2.1, (f2 b hb').2.1, (f2 b hb').2.2.2.2.1, (f2 b hb').2.2.2.2.2⟩
    · refine thn (T.item (blk X N' scope cl s3.heap.objs.size fp s3 H3) rfl rfl rfl hc i [] s4 (fr σ) H4 _ I4 (stat fr4) st4 go) fun r s5 ⟨u, hr, h5⟩ => ?_
      subst hr
      refine wpAny_bind (thn h5 fun _ s6 ⟨x, H6, I6, r6, y6, st6, fr6⟩ => ?_)
      have I6' := I6.pinned (stat fr6) (T.obj _ _ st6)
      refine wpAny_bind (wpAny_mono (hg s3.heap.objs.size fp s3 H3 _ s6 (fr σ) H6 x u _ I6' r6 (step x H6 y6)) (fun _ s7 ⟨σ7, H7, I7, kp, q7⟩ => ?_) fun _ _ z => z.elim)
      refine wpAny_bind (wpAny_mono (wpAny_tests_one (wpAny_mono (hq s3.heap.objs.size fp s3 H3 _ s7 σ7 H7 _ I7 q7) (fun b s8 hb => hb) fun _ _ z => z.elim)) (fun b s8 hb => ?_) fun _ _ z => z)
      obtain ⟨H8, I8, q8⟩ := hb
      cases b with
      | false =>
        obtain ⟨m', hm, w8⟩ := q8
        refine wpAny_pure ⟨rfl, m', hm, i + 1, ys, H8, ?_, ?_, ?_, w8⟩
        · exact I8.unpinned.weak (by rw [kp.1]) kp.2
        · exact T.keep _ _ _ st6 fun b hb o e => (I8.pin (b, o) (List.mem_append_right _ (List.mem_append_right _ (mem_pinsAt hb e)))).1
        · intro b hb
          obtain ⟨o, e, d⟩ := T.obj _ _ st6 b hb
          exact (I8.pin (b, o) (List.mem_append_right _ (List.mem_append_right _ (mem_pinsAt hb e)))).2.1
      | true =>
      refine wpAny_bind (wpAny_bind (wpAny_mono (he s3.heap.objs.size fp s3 H3 _ s8 σ7 H8 _ I8 q8) (fun v8 s8 ⟨y8, H8, I8, r8, hD, m', hm, w8⟩ => ?_) fun _ _ z => z.elim))
      have ap := mt_append (X := blk X N' scope cl s3.heap.objs.size fp s3 H3) _ s8 σ7 H8 (.ref s2.heap.objs.size) [y8] (.ref s2.heap.objs.size) [v8] (fun _ H9 => W (i + 1) m' (ys ++ [y8]) H9) I8 rfl (.cons r8 .nil) ⟨_, ys, y8, rfl, rfl, hD, hz, w8⟩
      refine wpAny_bind (wpAny_mono ap (fun _ s9 ⟨_, H9, I9, _, w9⟩ => wpAny_pure (wpAny_pure ⟨rfl, m', hm, i + 1, ys ++ [y8], H9, ?_, ?_, ?_, w9⟩)) fun _ _ z => z.elim)
      · exact I9.unpinned.weak (by rw [kp.1]) kp.2
      · exact T.keep _ _ _ st6 fun b hb o e => (I9.pin (b, o) (List.mem_append_right _ (List.mem_append_right _ (mem_pinsAt hb e)))).1
      · intro b hb
        obtain ⟨o, e, d⟩ := T.obj _ _ st6 b hb
        exact (I9.pin (b, o) (List.mem_append_right _ (List.mem_append_right _ (mem_pinsAt hb e)))).2.1
  subst hs3
  exact codeAny_compStart_list loop (T.self X.A 0 _ _ _ stB loop)
end
end L2

set_option linter.all false
set_option maxRecDepth 100000
set_option maxHeartbeats 4000000
namespace L2
open PySem PySem.Spec PyProof.Rows
/-! ### a dict while it is walked -/
/-! ### its keys, its values -/
end L2

set_option linter.all false
set_option maxRecDepth 100000
set_option maxHeartbeats 4000000
namespace L2
open PySem PySem.Spec PyProof.Rows
/-! ### names to numbers -/
end L2

set_option linter.all false
set_option maxRecDepth 100000
set_option maxHeartbeats 4000000
namespace L2
open PySem PySem.StrLaws PySem.Builtin PySem.Builtin.Str PyProof.Rows PySem.NumText
/-! ### any text read as a whole number -/
/-! ### texts cut -/
/-! ### fractions, points, rings -/
/-! ### wishes -/
end L2

set_option linter.all false
set_option maxRecDepth 100000
set_option maxHeartbeats 4000000
namespace L2
open PySem PySem.Spec PyProof.Rows
/-! ### slices of texts -/
section
variable {X : Cx}
/-! ### xs == [] -/
/-! ### things alike -/
open PySem.SeqAt PyProof.V in
end
/-! ### comprehensions whose elements are read, whatever they are -/
end L2

set_option linter.all false
set_option maxRecDepth 100000
set_option maxHeartbeats 4000000
namespace L2
open PySem PySem.StrLaws PySem.Builtin PyProof.Rows
/-! ### slices -/
end L2

set_option linter.all false
set_option maxRecDepth 100000
set_option maxHeartbeats 4000000
namespace L2
open PySem PySem.Spec PyProof.Rows
/-! ### a comprehension with an if that catches any names -/
section
variable {X : Cx} {scope : Scope}
/-- the names that a comprehension catches: name, cell, slot -/
inductive Caught (X : Cx) (scope : Scope) : List (Str × Addr × Nat) → Prop
  | nil : Caught X scope []
  | cons {a : Str} {c : Addr} {j : Nat} {ks : List (Str × Addr × Nat)} (h : X.env.cells.lookup a = some c ∧ X.N[j]? = some a ∧ X.env.kindOf a = some .cell ∧ (relabel scope X.env).names.lookup a = some .cell) (t : Caught X scope ks) : Caught X scope ((a, c, j) :: ks)
theorem Caught.mem {ks : List (Str × Addr × Nat)} (h : Caught X scope ks) : ∀ k ∈ ks, X.env.cells.lookup k.1 = some k.2.1 ∧ X.N[k.2.2]? = some k.1 ∧ X.env.kindOf k.1 = some .cell ∧ (relabel scope X.env).names.lookup k.1 = some .cell := by
  induction h with
  | nil => intro k hk; cases hk
  | cons h t ih =>
    intro k hk
    rcases List.mem_cons.mp hk with rfl | hk
    · exact h
    · exact ih k hk
theorem look_mem {ks : List (Str × Addr × Nat)} {y : Str} {c : Addr} (h : (ks.map fun k => (k.1, k.2.1)).lookup y = some c) : ∃ k ∈ ks, k.1 = y ∧ k.2.1 = c := by
  induction ks with
  | nil => cases h
  | cons k ks ih =>
    rw [List.map_cons, List.lookup_cons] at h
    by_cases e : (y == k.1) = true
    · rw [e] at h
      cases h
      exact ⟨k, by simp, (beq_iff_eq.mp e).symm, rfl⟩
    · rw [Bool.eq_false_iff.mpr e] at h
      obtain ⟨k', hk, h1, h2⟩ := ih h
      exact ⟨k', List.mem_cons_of_mem _ hk, h1, h2⟩
theorem look_has {ks : List (Str × Addr × Nat)} {y : Str} (h : ∃ k ∈ ks, k.1 = y) : ∃ c, (ks.map fun k => (k.1, k.2.1)).lookup y = some c := by
  induction ks with
  | nil => obtain ⟨k, hk, _⟩ := h; cases hk
  | cons k ks ih =>
    rw [List.map_cons, List.lookup_cons]
    by_cases e : (y == k.1) = true
    · exact ⟨k.2.1, by rw [e]⟩
    · rw [Bool.eq_false_iff.mpr e]
      refine ih ?_
      obtain ⟨k', hk, h1⟩ := h
      rcases List.mem_cons.mp hk with rfl | hk
      · exact absurd (beq_iff_eq.mpr h1.symm) e
      · exact ⟨k', hk, h1⟩
theorem pe_lcompFN {x : Str} {px : Pos} {elt iter cnd : Expr} {pos : Pos} {wi : TI} {te : TE} {tc : TT} (ks : List (Str × Addr × Nat))
    (hc : X.calm = true) (hi : PI X (.Name x px) iter wi)
    (hg : ∀ C fp s0 H0, PG (blk X (x :: ks.map (·.1)) scope (ks.map fun k => (k.1, k.2.1)) C fp s0 H0) (.Name x px) (gName 0))
    (hq : ∀ C fp s0 H0, PT (blk X (x :: ks.map (·.1)) scope (ks.map fun k => (k.1, k.2.1)) C fp s0 H0) cnd tc)
    (he : ∀ C fp s0 H0, PE (blk X (x :: ks.map (·.1)) scope (ks.map fun k => (k.1, k.2.1)) C fp s0 H0) elt te)
    (hclos : closureFor scope X.env = pure (ks.map fun k => (k.1, k.2.1))) (hkind : scope.kind = .function) (hnames : ∀ x ∈ scope.names, x.2 = .local → scope.names.lookup x.1 = some .local) (hcell : ∀ y ∈ scope.names, y.2 ≠ .cell)
    (hks : Caught X scope ks) (hall : ((relabel scope X.env).names.all fun p => (p.2 != .cell && p.2 != .free) || ks.any fun k => p.1 == k.1) = true)
    (hs : ∀ x, foldedSetIterable iter X.env x = pure x := by intro _; rfl) :
    PE X (.ListComp elt [⟨.Name x px, iter, [cnd], 0⟩] scope pos) (tCompF wi (fun σ => none :: ks.map fun k => (σ[k.2.2]?).join) (gName 0) tc te) := by
  refine pe_lcompF (N' := x :: ks.map (·.1)) (cl := ks.map fun k => (k.1, k.2.1)) hc hi hg hq he hclos hkind hnames hcell (fun y' c' h => ?_) (fun y' h => ?_) (fun _ _ => by simp) (fun σ i y' v e1 e2 => ?_) hs
  · obtain ⟨k, hk, rfl, rfl⟩ := look_mem h
    exact (hks.mem k hk).1
  · rw [List.all_eq_true] at hall
    have key : ∀ k, (k = .cell ∨ k = .free) → (relabel scope X.env).names.lookup y' = some k → ∃ k ∈ ks, k.1 = y' := fun k hk e => by
      have := hall _ (lookup_mem e)
      rw [Bool.or_eq_true] at this
      rcases this with z | z
      · rcases hk with rfl | rfl
        · simp at z
        · simp at z
      · rw [List.any_eq_true] at z
        obtain ⟨k', hk', e'⟩ := z
        exact ⟨k', hk', (beq_iff_eq.mp e').symm⟩
    refine look_has ?_
    rcases h with h | h
    · exact key _ (.inl rfl) h
    · exact key _ (.inr rfl) h
  · have js : ∀ {j : Nat}, (σ[j]?).join = some v → σ[j]? = some (some v) := fun {j} e => by
      cases h : σ[j]? with
      | none => rw [h] at e; cases e
      | some o => rw [h] at e; have : o = some v := e; rw [this]
    cases i with
    | zero => cases e2
    | succ i =>
      rw [List.getElem?_cons_succ, List.getElem?_map] at e1 e2
      cases hk : ks[i]? with
      | none => rw [hk] at e1; cases e1
      | some k =>
        rw [hk] at e1 e2
        have e1' : k.1 = y' := Option.some.inj e1
        have e2' : (σ[k.2.2]?).join = some v := Option.some.inj e2
        subst e1'
        have := hks.mem k (List.mem_of_getElem? hk)
        exact ⟨k.2.2, this.2.1, js e2', this.2.2.1, this.2.2.2⟩
end
section
variable {σ : St} {H : Hp} {tl : TE} {tc : TT} {fr : St → St} {K : PySem.W.Frag} {a : Addr} {xs : List V}
/-- [x for x in xs if ..] -/
theorem gv_compF (b : V → Bool) (hl : Pu tl σ H (.ref a)) (ha : H a = some (.lst xs)) (hz : xs.length ≤ 1000000) (hk : ∀ x, KeepS (fr σ) ((fr σ).set 0 (some x))) (h0 : ∀ x : V, ((fr σ).set 0 (some x))[0]? = some (some x))
    (hs : ∀ x ∈ xs, ∀ H', Same H H' → PuT tc ((fr σ).set 0 (some x)) H' (b x)) : Gv (tCompF (iList K tl) fr (gName 0) tc (tVar 0)) σ H (fun v H' => ∃ D, H D = none ∧ v = .ref D ∧ H' = upd H D (.lst (xs.filter b))) := by
  intro Q g
  refine hl _ ⟨a, rfl, ⟨xs, SqL.of ha⟩, fun D hD => ?_⟩
  refine ⟨fun i m ys H' => m = xs.length - i ∧ i ≤ xs.length ∧ ys = (xs.take i).filter b ∧ H' = upd H D (.lst ys), ⟨_, rfl, Nat.zero_le _, rfl, rfl⟩, ?_⟩
  rintro i m ys H' ⟨rfl, hi, rfl, rfl⟩
  have s' : Same H (upd H D (.lst ((xs.take i).filter b))) := Same.upd hD
  by_cases hlt : i < xs.length
  · refine .inr ⟨⟨xs, xs[i], SqL.of (s' _ _ ha), by simp [hlt]⟩, ?_, fun x H3 y => ?_⟩
    · have := List.length_filter_le b (xs.take i)
      rw [List.length_take] at this
      exact Nat.lt_of_le_of_lt (show _ ≤ 1000000 by omega) (by decide)
    obtain ⟨e, y⟩ := y
    subst e
    have hx : xs[i]? = some x := y xs (SqL.of (s' _ _ ha))
    refine ⟨hk x, hs x (List.mem_of_getElem? hx) _ s' _ ?_⟩
    have tk : xs.take (i + 1) = xs.take i ++ [x] := by rw [List.take_succ, hx]; rfl
    cases hb : b x with
    | false =>
      refine ⟨xs.length - (i + 1), by omega, rfl, hlt, ?_, rfl⟩
      rw [tk, List.filter_append]
      simp [hb]
    | true =>
      refine (pu_v (h0 x) : Pu (tVar 0) _ _ x) _ ⟨upd_same, xs.length - (i + 1), by omega, rfl, hlt, ?_, ?_⟩
      · rw [tk, List.filter_append]
        simp [hb]
      · rw [upd_upd]
  · have e : i = xs.length := by omega
    subst e
    refine .inl ⟨⟨xs, SqL.of (s' _ _ ha), Nat.le_refl _⟩, g _ _ ⟨D, hD, rfl, ?_⟩⟩
    rw [List.take_length]
end
end L2

set_option linter.all false
set_option maxHeartbeats 4000000
namespace L2
/-! ### threads: cells met by a side, in the row in which they are met -/
/-- where a cell is first met: u0, u1 how far the side's begin lies over the cell's low bounds -/
def fst2 (f0 f1 u0 u1 h L : Int) : Int × Int := mx2 (mx2 (0, 0) (spn f0 u0 h (L.fdiv (f0.natAbs : Int)) L).1) (spn f1 u1 h (L.fdiv (f1.natAbs : Int)) L).1
def lst2 (f0 f1 u0 u1 h L : Int) : Int × Int := mn2 (mn2 (L, 0) (spn f0 u0 h (L.fdiv (f0.natAbs : Int)) L).2) (spn f1 u1 h (L.fdiv (f1.natAbs : Int)) L).2
def Met (f0 f1 u0 u1 h L : Int) : Prop := le2 (fst2 f0 f1 u0 u1 h L) (lst2 f0 f1 u0 u1 h L)
theorem le2_trans {a b c : Int × Int} (h : le2 a b) (g : le2 b c) : le2 a c := by
  unfold le2 at *
  omega
theorem le2_total (a b : Int × Int) : le2 a b ∨ le2 b a := by
  unfold le2
  omega
theorem le2_rfl (a : Int × Int) : le2 a a := by unfold le2; omega
theorem lt2_not (p q : Int × Int) : lt2 p q = true ↔ ¬ le2 q p := by
  unfold lt2 le2
  simp only [Bool.or_eq_true, Bool.and_eq_true, decide_eq_true_iff, beq_iff_eq]
  omega
theorem mx2_ge (p q : Int × Int) : le2 p (mx2 p q) ∧ le2 q (mx2 p q) := by
  unfold mx2
  split
  · rename_i h
    rw [lt2_not] at h
    exact ⟨(le2_total p q).resolve_right h, le2_rfl q⟩
  · rename_i h
    rw [lt2_not, Classical.not_not] at h
    exact ⟨le2_rfl p, h⟩
theorem mn2_le (p q : Int × Int) : le2 (mn2 p q) p ∧ le2 (mn2 p q) q := by
  unfold mn2
  split
  · rename_i h
    rw [lt2_not] at h
    exact ⟨(le2_total p q).resolve_left h, le2_rfl q⟩
  · rename_i h
    rw [lt2_not, Classical.not_not] at h
    exact ⟨le2_rfl p, h⟩
section
variable {f0 f1 u0 u1 h L : Int}
theorem fst2_ge0 : le2 (spn f0 u0 h (L.fdiv (f0.natAbs : Int)) L).1 (fst2 f0 f1 u0 u1 h L) := le2_trans (mx2_ge _ _).2 (mx2_ge _ _).1
theorem fst2_ge1 : le2 (spn f1 u1 h (L.fdiv (f1.natAbs : Int)) L).1 (fst2 f0 f1 u0 u1 h L) := (mx2_ge _ _).2
theorem fst2_ge : le2 (0, 0) (fst2 f0 f1 u0 u1 h L) := le2_trans (mx2_ge _ _).1 (mx2_ge _ _).1
theorem lst2_le0 : le2 (lst2 f0 f1 u0 u1 h L) (spn f0 u0 h (L.fdiv (f0.natAbs : Int)) L).2 := le2_trans (mn2_le _ _).1 (mn2_le _ _).2
theorem lst2_le1 : le2 (lst2 f0 f1 u0 u1 h L) (spn f1 u1 h (L.fdiv (f1.natAbs : Int)) L).2 := (mn2_le _ _).2
theorem lst2_le : le2 (lst2 f0 f1 u0 u1 h L) (L, 0) := le2_trans (mn2_le _ _).1 (mn2_le _ _).1
end
/-- two rows of cells on one axis, d rows apart: the farther one is met right behind the nearer one -/
theorem ax_up {f u h B L d : Int} (hf : 0 < f) (hh : 0 < h) (hB : 0 ≤ B) (hd : 1 ≤ d) : ¬ le2 (spn f (u - h * d) h B L).1 (spn f u h B L).2 := by
  unfold spn
  rw [if_neg (by omega), if_pos hf, if_neg (by omega), if_pos hf]
  unfold le2
  have h1 : (h - u) * B ≤ -(u - h * d) * B := Int.mul_le_mul_of_nonneg_right (by
    have : h * 1 ≤ h * d := Int.mul_le_mul_of_nonneg_left hd (by omega)
    omega) hB
  dsimp only
  omega
theorem ax_down {f u h B L d : Int} (hf : f < 0) (hh : 0 < h) (hB : 0 ≤ B) (hd : 1 ≤ d) : ¬ le2 (spn f u h B L).1 (spn f (u - h * d) h B L).2 := by
  unfold spn
  rw [if_neg (by omega), if_neg (by omega), if_neg (by omega), if_neg (by omega)]
  unfold le2
  have h1 : - -(u - h * d) * B ≤ -(h - u) * B := Int.mul_le_mul_of_nonneg_right (by
    have : h * 1 ≤ h * d := Int.mul_le_mul_of_nonneg_left hd (by omega)
    omega) hB
  dsimp only
  omega
theorem ax_zero {u h B L : Int} (hl : le2 (0, 0) (spn 0 u h B L).2) : 0 ≤ u ∧ u < h := by
  unfold spn at hl
  rw [if_pos rfl] at hl
  split at hl
  · omega
  · unfold le2 at hl
    dsimp only at hl
    omega
theorem fdiv_ge {L : Int} (hL : 0 ≤ L) (f : Int) : 0 ≤ L.fdiv (f.natAbs : Int) := Int.fdiv_nonneg hL (by omega)
/-- one axis: two met cells, the one first met not behind the other: their rows stand as the side goes -/
theorem row_ax {f u h B L d : Int} {x y : Int × Int} (hh : 0 < h) (hB : 0 ≤ B) (hxy : le2 x y)
    (h1 : le2 (spn f u h B L).1 x) (h2 : le2 y (spn f (u - h * d) h B L).2) (h3 : le2 (0, 0) x) (h4 : le2 x (spn f u h B L).2) (h5 : le2 (0, 0) y) : (0 < f → 0 ≤ d) ∧ (f < 0 → d ≤ 0) ∧ (f = 0 → d = 0) := by
  refine ⟨fun hf => ?_, fun hf => ?_, fun hf => ?_⟩
  · apply Classical.byContradiction
    intro z
    have := ax_up (f := f) (u := u - h * d) (h := h) (B := B) (L := L) (d := -d) hf hh hB (by omega)
    rw [show u - h * d - h * -d = u by rw [Int.mul_neg]; omega] at this
    exact this (le2_trans h1 (le2_trans hxy h2))
  · apply Classical.byContradiction
    intro z
    exact ax_down (f := f) (u := u) (h := h) (B := B) (L := L) (d := d) hf hh hB (by omega) (le2_trans h1 (le2_trans hxy h2))
  · subst hf
    have a1 := ax_zero (le2_trans h3 h4)
    have a2 := ax_zero (le2_trans h5 h2)
    rcases Int.lt_trichotomy d 0 with z | z | z
    · have : h * d ≤ h * (-1) := Int.mul_le_mul_of_nonneg_left (by omega) (by omega)
      omega
    · exact z
    · have : h * 1 ≤ h * d := Int.mul_le_mul_of_nonneg_left (by omega) (by omega)
      omega
theorem row_step {f0 f1 u0 u1 h L d e : Int} (hh : 0 < h) (hL : 0 ≤ L) (m1 : Met f0 f1 u0 u1 h L) (m2 : Met f0 f1 (u0 - h * d) (u1 - h * e) h L)
    (hle : le2 (fst2 f0 f1 u0 u1 h L) (fst2 f0 f1 (u0 - h * d) (u1 - h * e) h L)) : ((0 < f0 → 0 ≤ d) ∧ (f0 < 0 → d ≤ 0) ∧ (f0 = 0 → d = 0)) ∧ (0 < f1 → 0 ≤ e) ∧ (f1 < 0 → e ≤ 0) ∧ (f1 = 0 → e = 0) :=
  ⟨row_ax hh (fdiv_ge hL f0) hle fst2_ge0 (le2_trans m2 lst2_le0) fst2_ge (le2_trans m1 lst2_le0) fst2_ge,
   row_ax hh (fdiv_ge hL f1) hle fst2_ge1 (le2_trans m2 lst2_le1) fst2_ge (le2_trans m1 lst2_le1) fst2_ge⟩
/-- a met cell lies in the rows between those of the ends: one axis -/
theorem between_up {f u h B L : Int} (hf : 0 < f) (hB : 0 < B) (hL : L = B * f) (h1 : le2 (0, 0) (spn f u h B L).2) (h2 : le2 (spn f u h B L).1 (L, 0)) : u < h ∧ 0 ≤ u + f := by
  unfold spn at h1 h2
  rw [if_neg (by omega), if_pos hf] at h1 h2
  unfold le2 at h1 h2
  dsimp only at h1 h2
  constructor
  · apply Classical.byContradiction
    intro z
    have : (h - u) * B ≤ 0 * B := Int.mul_le_mul_of_nonneg_right (by omega) (by omega)
    omega
  · apply Classical.byContradiction
    intro z
    have : B * (f + 1) ≤ B * (-u) := Int.mul_le_mul_of_nonneg_left (by omega) (by omega)
    rw [Int.mul_add, Int.mul_one, ← hL, Int.mul_comm B (-u)] at this
    omega
theorem between_down {f u h B L : Int} (hf : f < 0) (hB : 0 < B) (hL : L = B * -f) (h1 : le2 (0, 0) (spn f u h B L).2) (h2 : le2 (spn f u h B L).1 (L, 0)) : 0 ≤ u ∧ u + f < h := by
  unfold spn at h1 h2
  rw [if_neg (by omega), if_neg (by omega)] at h1 h2
  unfold le2 at h1 h2
  dsimp only at h1 h2
  constructor
  · apply Classical.byContradiction
    intro z
    have : - -u * B ≤ (-1) * B := Int.mul_le_mul_of_nonneg_right (by omega) (by omega)
    omega
  · apply Classical.byContradiction
    intro z
    have : B * (-f) ≤ B * (-(h - u)) := Int.mul_le_mul_of_nonneg_left (by omega) (by omega)
    rw [← hL, Int.mul_comm B (-(h - u))] at this
    omega
/-! ### one row -/
/-- the order in which a side that goes (f0, f1) meets cells -/
def rowLe (f0 f1 : Int) (c c' : Int × Int) : Prop := ((0 < f0 → c.1 ≤ c'.1) ∧ (f0 < 0 → c'.1 ≤ c.1) ∧ (f0 = 0 → c.1 = c'.1)) ∧ (0 < f1 → c.2 ≤ c'.2) ∧ (f1 < 0 → c'.2 ≤ c.2) ∧ (f1 = 0 → c.2 = c'.2)
theorem rowLe_anti {f0 f1 : Int} {c c' : Int × Int} (h : rowLe f0 f1 c c') (g : rowLe f0 f1 c' c) : c = c' := by
  unfold rowLe at *
  have h1 : c.1 = c'.1 := by rcases Int.lt_trichotomy f0 0 with z | z | z <;> omega
  have h2 : c.2 = c'.2 := by rcases Int.lt_trichotomy f1 0 with z | z | z <;> omega
  exact Prod.ext h1 h2
theorem rowLe_turn {f0 f1 : Int} {c c' : Int × Int} : rowLe (-f0) (-f1) c c' ↔ rowLe f0 f1 c' c := by
  unfold rowLe
  constructor <;> intro h <;> omega
/-- lists of the same things, both in one row, are one -/
theorem row_one {α : Type} {R : α → α → Prop} (anti : ∀ a b, R a b → R b a → a = b) : ∀ {xs ys : List α}, xs.Perm ys → xs.Pairwise R → ys.Pairwise R → xs = ys
  | [], ys, p, _, _ => (List.nil_perm.mp p).symm
  | x :: xs, [], p, _, _ => by
    have := p.length_eq
    simp at this
  | x :: xs, y :: ys, p, hx, hy => by
    have e : x = y := by
      have h1 : x ∈ y :: ys := p.subset (List.mem_cons_self)
      have h2 : y ∈ x :: xs := p.symm.subset (List.mem_cons_self)
      rcases List.mem_cons.mp h1 with e | h1
      · exact e
      rcases List.mem_cons.mp h2 with e | h2
      · exact e.symm
      exact anti x y ((List.pairwise_cons.mp hx).1 y h2) ((List.pairwise_cons.mp hy).1 x h1)
    subst e
    rw [row_one anti ((List.perm_cons x).mp p) (List.pairwise_cons.mp hx).2 (List.pairwise_cons.mp hy).2]
end L2

set_option linter.all false
set_option maxRecDepth 100000
set_option maxHeartbeats 4000000
namespace L2
open PySem PySem.Spec PyProof.Rows PySem.W
/-! ### what a sort does, as a tree of questions -/
/-- a row of keys: lt; no lt both ways; what is not ahead -/
structure KO (α : Type) where
  lt : α → α → Bool
  asym : ∀ {a b : α}, lt a b = true → lt b a = false
  trans : ∀ {a b c : α}, lt b a = false → lt c b = false → lt c a = false
  anti : ∀ {a b : α}, lt a b = false → lt b a = false → a = b
namespace KO
variable {α : Type} (O : KO α)
def le (a b : α) : Prop := O.lt b a = false
theorem le_refl (a : α) : O.le a a := by
  cases h : O.lt a a with
  | false => exact h
  | true => exact O.asym h
variable {O}
theorem le_trans {a b c : α} (h1 : O.le a b) (h2 : O.le b c) : O.le a c := O.trans h1 h2
theorem le_of_lt {a b : α} (h : O.lt a b = true) : O.le a b := O.asym h
theorem lt_of_lt_le {a b c : α} (h : O.lt a b = true) (h2 : O.le b c) : O.lt a c = true := by
  cases e : O.lt a c with
  | true => rfl
  | false =>
    have := O.trans h2 e
    rw [h] at this
    cases this
end KO
/-- with these answers the tree asks of the first n alone and ends so -/
def TAll {β : Type} (n : Nat) (lt : Nat → Nat → Bool) : KasT β → (β → Prop) → Prop
  | .ret a, Q => Q a
  | .ask i j k, Q => i < n ∧ j < n ∧ TAll n lt (k (lt i j)) Q
theorem TAll.bind {β γ : Type} {n : Nat} {lt : Nat → Nat → Bool} {f : β → KasT γ} {Q : γ → Prop} : ∀ {t : KasT β}, TAll n lt t (fun a => TAll n lt (f a) Q) → TAll n lt (t.bind f) Q
  | .ret _, h => h
  | .ask _ _ _, ⟨h1, h2, h3⟩ => ⟨h1, h2, TAll.bind h3⟩
theorem TAll.run {β : Type} {n : Nat} {lt : Nat → Nat → Bool} {cmp : Nat → Nat → (Bool → Shared → Prop) → Shared → Prop} {Q : β → Shared → Prop} {s : Shared} (h : ∀ i j C, i < n → j < n → C (lt i j) s → cmp i j C s) :
    ∀ {t : KasT β}, TAll n lt t (fun a => Q a s) → t.kasWp cmp Q s
  | .ret _, q => q
  | .ask i j k, ⟨h1, h2, q⟩ => h i j _ h1 h2 (TAll.run h q)
section
variable {α : Type} {O : KO α} {n : Nat} {key : Nat → α} {p : Array Nat}
def PB (n : Nat) (p : Array Nat) : Prop := p.toList.Perm (List.range n)
theorem PB.size (h : PB n p) : p.size = n := by
  have := h.length_eq
  simpa using this
theorem PB.lt (h : PB n p) {i : Nat} (hi : i < n) : p.getD i 0 < n := by
  have hi' : i < p.size := by rw [h.size]; exact hi
  have e : p.getD i 0 = p[i] := by simp [Array.getD, hi']
  rw [e]
  have : p[i] ∈ p.toList := by simp
  exact List.mem_range.mp (h.mem_iff.mp this)
theorem PB.perm {q : Array Nat} (h : PB n p) (e : q.Perm p) : PB n q := (Array.perm_iff_toList_perm.mp e).trans h
abbrev KQ (key : Nat → α) (p : Array Nat) (i : Nat) : α := key (p.getD i 0)
theorem KQ_congr {q : Array Nat} {i j : Nat} (h : p[i]? = q[j]?) : KQ key p i = KQ key q j := by
  unfold KQ
  rw [Array.getD_eq_getD_getElem?, Array.getD_eq_getD_getElem?, h]
theorem KQ_bubble {src d : Nat} (hs : src < p.size) (hd : d ≤ src) (k : Nat) : KQ key (bubble p src d) k = if k = src - d then KQ key p src else if src - d < k ∧ k ≤ src then KQ key p (k - 1) else KQ key p k := by
  have e := getElem?_bubble hs d hd k
  by_cases h1 : k = src - d
  · rw [if_pos h1] at e ⊢; exact KQ_congr e
  · rw [if_neg h1] at e ⊢
    by_cases h2 : src - d < k ∧ k ≤ src
    · rw [if_pos h2] at e ⊢; exact KQ_congr e
    · rw [if_neg h2] at e ⊢; exact KQ_congr e
theorem KQ_rev {i j : Nat} (hj : j ≤ p.size) (k : Nat) : KQ key (kas_rev p i j) k = if i ≤ k ∧ k < j then KQ key p (i + j - 1 - k) else KQ key p k := by
  have e := getElem?_mirror_all (i := i) hj k
  unfold kas_rev
  by_cases h1 : i ≤ k ∧ k < j
  · rw [if_pos h1] at e ⊢; exact KQ_congr e
  · rw [if_neg h1] at e ⊢; exact KQ_congr e
theorem KQ_rev_eq {i j : Nat} {a : α} (hj : j ≤ p.size) (h : ∀ k, i ≤ k → k < j → KQ key p k = a) (k : Nat) : KQ key (kas_rev p i j) k = KQ key p k := by
  rw [KQ_rev hj]
  by_cases h1 : i ≤ k ∧ k < j
  · rw [if_pos h1, h _ (by omega) (by omega), h _ h1.1 h1.2]
  · rw [if_neg h1]
theorem PB.rev (h : PB n p) (i j : Nat) : PB n (kas_rev p i j) := h.perm (mirror_perm _ _ _ _)
variable (O key) in
/-- the first k stand in order; the other way round -/
def Up (p : Array Nat) (k : Nat) : Prop := ∀ i j, i ≤ j → j < k → O.le (KQ key p i) (KQ key p j)
variable (O key) in
def Dn (p : Array Nat) (k : Nat) : Prop := ∀ i j, i ≤ j → j < k → O.le (KQ key p j) (KQ key p i)
variable (O key) in
abbrev lq (i j : Nat) : Bool := O.lt (key i) (key j)
theorem t_ask {β : Type} {i j : Nat} {k : Bool → KasT β} {Q : β → Prop} (hi : i < n) (hj : j < n) (h1 : O.lt (key i) (key j) = true → TAll n (lq O key) (k true) Q) (h2 : O.lt (key i) (key j) = false → TAll n (lq O key) (k false) Q) : TAll n (lq O key) (.ask i j k) Q := by
  refine ⟨hi, hj, ?_⟩
  cases e : lq O key i j with
  | true => exact h1 e
  | false => exact h2 e
theorem t_asc {Q : Nat → Prop} (hp : PB n p) : ∀ (f a : Nat), 1 ≤ a → a + f ≤ n → Up O key p a → (∀ m, a ≤ m → m ≤ a + f → Up O key p m → (m = a + f ∨ O.lt (KQ key p m) (KQ key p (m - 1)) = true) → Q m) → TAll n (lq O key) (kas_asc p f a) Q
  | 0, a, _, _, hu, h => h a (Nat.le_refl _) (by omega) hu (.inl rfl)
  | f + 1, a, h1, hf, hu, h => by
    refine t_ask (hp.lt (by omega)) (hp.lt (by omega)) (fun e => ?_) (fun e => ?_)
    · exact h a (Nat.le_refl _) (by omega) hu (.inr e)
    · skip
      refine t_asc hp f (a + 1) (by omega) (by omega) (fun i j hij hj => ?_) fun m h2 h3 h4 h5 => h m (by omega) (by omega) h4 (h5.imp (fun z => by omega) id)
      by_cases hja : j < a
      · exact hu i j hij hja
      · obtain rfl : j = a := by omega
        by_cases hi : i = j
        · subst hi; exact O.le_refl _
        · exact KO.le_trans (hu i (j - 1) (by omega) (by omega)) e
theorem t_desc {Q : Array Nat × Nat × Nat → Prop} : ∀ (f : Nat) (p : Array Nat) (a q : Nat), PB n p → 1 ≤ a → a + f ≤ n → Dn O key p a → q + 1 ≤ a → (∀ i, a - (q + 1) ≤ i → i < a → KQ key p i = KQ key p (a - 1)) →
    (∀ p' m q', PB n p' → a ≤ m → m ≤ a + f → Dn O key p' m → q' + 1 ≤ m → (∀ i, m - (q' + 1) ≤ i → i < m → KQ key p' i = KQ key p' (m - 1)) → Q (p', m, q')) → TAll n (lq O key) (kas_desc f p a q) Q
  | 0, p, a, q, hp, h1, hf, hd, hq, he, h => h p a q hp (Nat.le_refl _) (by omega) hd hq he
  | f + 1, p, a, q, hp, h1, hf, hd, hq, he, h => by
    refine t_ask (hp.lt (by omega)) (hp.lt (by omega)) (fun e => ?_) (fun e => ?_)
    have sz : a ≤ p.size := by rw [hp.size]; omega
    · skip
      have st : ∀ p' : Array Nat, (∀ k, KQ key p' k = KQ key p k) → Dn O key p' (a + 1) := fun p' hk i j hij hj => by
        rw [hk, hk]
        by_cases hja : j < a
        · exact hd i j hij hja
        · obtain rfl : j = a := by omega
          by_cases hi : i = j
          · subst hi; exact O.le_refl _
          · exact KO.le_trans (KO.le_of_lt e) (hd i (j - 1) (by omega) (by omega))
      show TAll n (lq O key) (if true = true then (if q > 0 then kas_desc f (kas_rev p (a - (q + 1)) a) (a + 1) 0 else kas_desc f p (a + 1) 0) else _) Q
      rw [if_pos rfl]
      by_cases hq0 : q > 0
      · rw [if_pos hq0]
        exact t_desc f _ (a + 1) 0 (hp.rev _ _) (by omega) (by omega) (st _ (KQ_rev_eq sz he)) (by omega) (fun i h2 h3 => by congr 2; omega) fun p' m q' x1 x2 x3 => h p' m q' x1 (by omega) (by omega)
      · rw [if_neg hq0]
        exact t_desc f _ (a + 1) 0 hp (by omega) (by omega) (st _ fun _ => rfl) (by omega) (fun i h2 h3 => by congr 2; omega) fun p' m q' x1 x2 x3 => h p' m q' x1 (by omega) (by omega)
    · skip
      show TAll n (lq O key) (if false = true then _ else KasT.ask (p.getD (a - 1) 0) (p.getD a 0) fun d => if d = true then .ret (p, a, q) else kas_desc f p (a + 1) (q + 1)) Q
      rw [if_neg (by decide)]
      refine t_ask (hp.lt (by omega)) (hp.lt (by omega)) (fun e2 => ?_) (fun e2 => ?_)
      · exact h p a q hp (Nat.le_refl _) (by omega) hd hq he
      · skip
        have heq : KQ key p a = KQ key p (a - 1) := O.anti e e2
        show TAll n (lq O key) (if false = true then _ else kas_desc f p (a + 1) (q + 1)) Q
        rw [if_neg (by decide)]
        refine t_desc f _ (a + 1) (q + 1) hp (by omega) (by omega) (fun i j hij hj => ?_) (by omega) (fun i h2 h3 => ?_) fun p' m q' x1 x2 x3 => h p' m q' x1 (by omega) (by omega)
        · by_cases hja : j < a
          · exact hd i j hij hja
          · obtain rfl : j = a := by omega
            by_cases hi : i = j
            · subst hi; exact O.le_refl _
            · rw [heq]; exact hd i (j - 1) (by omega) (by omega)
        · rw [show a + 1 - 1 = a by omega]
          by_cases hi : i = a
          · subst hi; rfl
          · rw [heq]; exact he i (by omega) (by omega)
theorem t_tail3 {Q : Nat × Array Nat → Prop} {m : Nat} (hp : PB n p) (h1 : 1 ≤ m) (hm : m ≤ n) (hd : Dn O key p m) (h : ∀ k p', PB n p' → 1 ≤ k → k ≤ n → Up O key p' k → Q (k, p')) : TAll n (lq O key) (kas_tail3 m n p) Q := by
  have sz : m ≤ p.size := by rw [hp.size]; exact hm
  refine TAll.bind (t_asc (hp.rev 0 m) (n - m) m h1 (by omega) (fun i j hij hj => ?_) fun k h2 h3 h4 _ => h k _ (hp.rev 0 m) (by omega) (by omega) h4)
  rw [KQ_rev sz, KQ_rev sz, if_pos (by omega), if_pos (by omega)]
  exact hd _ _ (by omega) (by omega)
theorem t_descPart {Q : Nat × Array Nat → Prop} {m : Nat} (hp : PB n p) (hm : m + 1 ≤ n) (hd : Dn O key p (m + 1)) (h : ∀ k p', PB n p' → 1 ≤ k → k ≤ n → Up O key p' k → Q (k, p')) : TAll n (lq O key) (kas_descPart m n p) Q := by
  refine TAll.bind (t_desc _ p (m + 1) 0 hp (by omega) (by omega) hd (by omega) (fun i h2 h3 => by congr 2; omega) fun p' k q hp' h2 h3 hd' hq he => ?_)
  have sz : k ≤ p'.size := by rw [hp'.size]; omega
  by_cases hq0 : q > 0
  · show TAll n (lq O key) (if q > 0 then kas_tail3 k n (kas_rev p' (k - (q + 1)) k) else kas_tail3 k n p') Q
    rw [if_pos hq0]
    refine t_tail3 (hp'.rev _ _) (by omega) (by omega) (fun i j hij hj => ?_) h
    rw [KQ_rev_eq sz he, KQ_rev_eq sz he]
    exact hd' i j hij hj
  · show TAll n (lq O key) (if q > 0 then kas_tail3 k n (kas_rev p' (k - (q + 1)) k) else kas_tail3 k n p') Q
    rw [if_neg hq0]
    exact t_tail3 hp' (by omega) (by omega) hd' h
theorem t_count {Q : Nat × Array Nat → Prop} (hp : PB n p) (hn : 1 ≤ n) (h : ∀ k p', PB n p' → 1 ≤ k → k ≤ n → Up O key p' k → Q (k, p')) : TAll n (lq O key) (kas_count n p) Q := by
  refine TAll.bind (t_asc hp (n - 1) 1 (Nat.le_refl _) (by omega) (fun i j hij hj => (show i = j by omega) ▸ O.le_refl _) fun m h1 h2 hu hor => ?_)
  by_cases hm : m = n
  · subst hm
    rw [if_pos (by simp)]
    exact h m p hp h1 (by omega) hu
  · rw [if_neg (by simpa using hm)]
    have hlt : O.lt (KQ key p m) (KQ key p (m - 1)) = true := hor.resolve_left (by omega)
    by_cases h3 : m > 1
    · rw [if_pos h3]
      refine t_ask (hp.lt (by omega)) (hp.lt (by omega)) (fun e => ?_) (fun e => ?_)
      · exact h m p hp h1 (by omega) hu
      · skip
        show TAll n (lq O key) (if false = true then _ else kas_descPart m n (kas_rev p 0 m)) Q
        rw [if_neg (by decide)]
        have sz : m ≤ p.size := by rw [hp.size]; omega
        have hall : ∀ k, 0 ≤ k → k < m → KQ key p k = KQ key p (m - 1) := fun k _ hk => by
          have a1 := hu 0 k (by omega) hk
          have a2 := hu k (m - 1) (by omega) (by omega)
          exact O.anti (KO.le_trans (show O.le (KQ key p (m - 1)) (KQ key p 0) from e) a1) a2
        refine t_descPart (hp.rev _ _) (by omega) (fun i j hij hj => ?_) h
        rw [KQ_rev_eq sz hall, KQ_rev_eq sz hall]
        by_cases hjm : j < m
        · rw [hall i (by omega) (by omega), hall j (by omega) hjm]; exact O.le_refl _
        · obtain rfl : j = m := by omega
          by_cases hi : i = j
          · subst hi; exact O.le_refl _
          · rw [hall i (by omega) (by omega)]; exact KO.le_of_lt hlt
    · rw [if_neg h3]
      obtain rfl : m = 1 := by omega
      refine t_descPart hp (by omega) (fun i j hij hj => ?_) h
      by_cases hi : i = j
      · subst hi; exact O.le_refl _
      · obtain rfl : i = 0 := by omega
        obtain rfl : j = 1 := by omega
        exact KO.le_of_lt hlt
theorem t_place {Q : Nat → Prop} {k : Nat} (hp : PB n p) (hk : k < n) (hu : Up O key p k) : ∀ (f l r : Nat), l ≤ r → r ≤ k → r - l ≤ f → (∀ i, i < l → O.le (KQ key p i) (KQ key p k)) → (∀ i, r ≤ i → i < k → O.lt (KQ key p k) (KQ key p i) = true) →
    (∀ m, m ≤ k → (∀ i, i < m → O.le (KQ key p i) (KQ key p k)) → (∀ i, m ≤ i → i < k → O.lt (KQ key p k) (KQ key p i) = true) → Q m) → TAll n (lq O key) (kas_place p k f l r) Q
  | 0, l, r, h1, h2, h3, h4, h5, h => by
    obtain rfl : l = r := by omega
    exact h l h2 h4 h5
  | f + 1, l, r, h1, h2, h3, h4, h5, h => by
    unfold kas_place
    by_cases hge : l ≥ r
    · rw [if_pos hge]
      obtain rfl : l = r := by omega
      exact h l h2 h4 h5
    · rw [if_neg hge]
      refine t_ask (hp.lt hk) (hp.lt (by omega)) (fun e => ?_) (fun e => ?_)
      · exact t_place hp hk hu f l ((l + r) / 2) (by omega) (by omega) (by omega) h4 (fun i h6 h7 => KO.lt_of_lt_le e (hu _ _ h6 h7)) h
      · exact t_place hp hk hu f ((l + r) / 2 + 1) r (by omega) (by omega) (by omega) (fun i h6 => KO.le_trans (hu i ((l + r) / 2) (by omega) (by omega)) e) h5 h
theorem t_bin {Q : Array Nat → Prop} : ∀ (f : Nat) (p : Array Nat) (k : Nat), PB n p → k + f = n → Up O key p k → (∀ p', PB n p' → Up O key p' n → Q p') → TAll n (lq O key) (kas_bin f p k) Q
  | 0, p, k, hp, hk, hu, h => h p hp (by rw [← hk]; exact hu)
  | f + 1, p, k, hp, hk, hu, h => by
    refine TAll.bind (t_place hp (by omega) hu k 0 k (by omega) (Nat.le_refl _) (by omega) (fun i h1 => by omega) (fun i h1 h2 => by omega) fun l hl lo hi => ?_)
    have hks : k < p.size := by rw [hp.size]; omega
    refine t_bin f _ (k + 1) (hp.perm (bubble_perm _ _ _)) (by omega) (fun i j hij hj => ?_) h
    rw [KQ_bubble hks (by omega), KQ_bubble hks (by omega), show k - (k - l) = l by omega]
    repeat' split
    all_goals first
      | (exfalso; omega)
      | exact O.le_refl _
      | exact lo _ (by omega)
      | exact KO.le_of_lt (hi _ (by omega) (by omega))
      | exact hu _ _ (by omega) (by omega)
theorem t_sort {Q : Array Nat → Prop} (hn : 1 ≤ n) (h : ∀ p, PB n p → Up O key p n → Q p) : TAll n (lq O key) (kas_sort n) Q := by
  refine TAll.bind (t_count (by unfold PB; simp) hn fun k p hp h1 h2 hu => ?_)
  by_cases hk : k < n
  · rw [if_pos hk]
    exact t_bin _ p _ hp (by omega) (by rw [show max k 1 = k by omega]; exact hu) h
  · rw [if_neg hk]
    obtain rfl : k = n := by omega
    exact h p hp hu
end
/-! ### rows of ints -/
theorem lex_asym : ∀ {a b : List Int}, HT.lexLt a b = true → HT.lexLt b a = false
  | [], [], _ => rfl
  | [], _ :: _, _ => rfl
  | _ :: _, [], h => by cases h
  | x :: a, y :: b, h => by
    rw [HT.lexLt_cons] at h ⊢
    by_cases e : x = y
    · rw [if_pos e] at h
      rw [if_pos e.symm]
      exact lex_asym h
    · rw [if_neg e] at h
      rw [if_neg (Ne.symm e)]
      have := of_decide_eq_true h
      exact decide_eq_false (by omega)
theorem lex_anti : ∀ {a b : List Int}, HT.lexLt a b = false → HT.lexLt b a = false → a = b
  | [], [], _, _ => rfl
  | [], _ :: _, h, _ => by cases h
  | _ :: _, [], _, h => by cases h
  | x :: a, y :: b, h, h' => by
    rw [HT.lexLt_cons] at h h'
    by_cases e : x = y
    · rw [if_pos e] at h
      rw [if_pos e.symm] at h'
      rw [e, lex_anti h h']
    · rw [if_neg e] at h
      rw [if_neg (Ne.symm e)] at h'
      have h1 := of_decide_eq_false h
      have h2 := of_decide_eq_false h'
      omega
theorem lex_trans : ∀ {a b c : List Int}, HT.lexLt b a = false → HT.lexLt c b = false → HT.lexLt c a = false
  | [], _, [], _, _ => rfl
  | [], [], _ :: _, _, _ => rfl
  | [], _ :: _, _ :: _, _, _ => rfl
  | _ :: _, [], _, h, _ => by cases h
  | _ :: _, _ :: _, [], _, h => by cases h
  | x :: a, y :: b, z :: c, h, h' => by
    rw [HT.lexLt_cons] at h h' ⊢
    by_cases e1 : y = x
    · rw [if_pos e1] at h
      subst e1
      by_cases e2 : z = y
      · rw [if_pos e2] at h' ⊢
        exact lex_trans h h'
      · rw [if_neg e2] at h' ⊢
        exact h'
    · rw [if_neg e1] at h
      have h1 := of_decide_eq_false h
      by_cases e2 : z = y
      · subst e2
        rw [if_neg e1]
        exact h
      · rw [if_neg e2] at h'
        have h2 := of_decide_eq_false h'
        rw [if_neg (by omega)]
        exact decide_eq_false (by omega)
def lexO : KO (List Int) := ⟨HT.lexLt, lex_asym, lex_trans, lex_anti⟩
end L2

set_option linter.all false
set_option maxRecDepth 100000
set_option maxHeartbeats 4000000
namespace L2
open PySem PySem.Spec PyProof.Rows PySem.W
/-! ### a sort by keys that are tuples of ints -/
def TKey (h : Heap) (v : Value) (ns : List Int) : Prop := ∃ (a : Addr) (its : List Value), v = .ref a ∧ IsTup h a its.toArray ∧ IntsAre its ns ∧ ns ≠ []
abbrev TK (h : Heap) : List Value → List (List Int) → Prop := Paired (TKey h)
section
variable {prog : Program} {w : World} {A : Around} {E : Value → Shared → Prop} {s : Shared}
theorem lex_go {Q : Bool → Shared → Prop} {fin : Bool} : ∀ {its : List Value} {ns : List Int} {js : List Value} {ms : List Int} (i : Nat), IntsAre its ns → IntsAre js ms → fin = decide (its.length < js.length) → Q (HT.lexLt ns ms) s →
    KatLex prog w A true fin Q (its.zip js) i s
  | _, _, _, _, i, .nil, .nil, hf, q => by
    subst hf
    exact kat_nil q
  | _, _, _, _, i, .nil, .cons n t h, hf, q => by
    subst hf
    exact kat_nil (by simpa using (show Q true s from q))
  | _, _, _, _, i, .cons n t h, .nil, hf, q => by
    subst hf
    exact kat_nil (by simpa using (show Q false s from q))
  | _, _, _, _, i, .cons n t h, .cons m u h', hf, q => by
    rw [List.zip_cons_cons]
    rw [HT.lexLt_cons] at q
    refine kat_cons (wpAny_eqBool_int (kat_go (fun e => kat_yes ?_) fun e => kat_no ?_))
    · have e' : n = m := by simpa using e
      rw [if_pos e'] at q
      exact lex_go (i + 1) h h' (by rw [hf]; simp) q
    · have e' : n ≠ m := by simpa using e
      rw [if_neg e'] at q
      by_cases hi : i = 0
      · subst hi
        exact oneLt_int q
      · rw [show (true && i == 0) = false by simpa using hi]
        exact kat_one _ _ (lt_int q)
theorem key_lt {x y : Value} {ns ms : List Int} {Q : Bool → Shared → Prop} (hx : TKey s.heap x ns) (hy : TKey s.heap y ms) (h : Q (HT.lexLt ns ms) s) : wpAny (model prog w) A (keyLt' (tuples' true) x y) Q E s := by
  obtain ⟨a, its, rfl, ⟨o, e, c, n, d⟩, hi, _⟩ := hx
  obtain ⟨b, js, rfl, ⟨o', e', c', n', d'⟩, hj, _⟩ := hy
  refine kat_lt e d e' d' ?_
  rw [List.toList_toArray, List.toList_toArray]
  exact lex_go 0 hi hj (by simp) h
theorem tk_tups {h : Heap} : ∀ {ks : List Value} {nss : List (List Int)}, TK h ks nss → ∃ fs, KatTups h ks fs ∧ fs.length = ks.length ∧ ∀ v ∈ fs, ∃ i t, v = Value.int i t
  | _, _, .nil => ⟨[], .nil, rfl, fun v hv => by simp at hv⟩
  | _, _, .cons ⟨a, its, e, ⟨o, e1, c, n, d⟩, hi, hne⟩ r => by
    obtain ⟨fs, t, hl, hf⟩ := tk_tups r
    cases hi with
    | nil => exact absurd rfl hne
    | cons m t' hi =>
      subst e
      exact ⟨.int m t' :: fs, .cons e1 c d rfl t, by simp [hl], fun v hv => (List.mem_cons.mp hv).elim (fun z => ⟨m, t', z⟩) (hf v)⟩
theorem key_kind {ks : List Value} {nss : List (List Int)} {Q : SortKind → Shared → Prop} (hk : TK s.heap ks nss) (h1 : 0 < ks.length) (h : Q (tuples' true) s) : wpAny (model prog w) A (keyKind' ks.toArray) Q E s := by
  obtain ⟨fs, t, hl, hf⟩ := tk_tups hk
  refine kat_kind (T := Value.type "int") t (by omega) (fun v hv => ?_) rfl h
  obtain ⟨i, t, rfl⟩ := hf v hv
  exact .now
/-- keys: tuples of ints, or ints (b) -/
def TKI : List Value → List (List Int) → Prop := Paired fun v ns => ∃ n t, v = Value.int n t ∧ ns = [n]
def TX (b : Bool) (h : Heap) (ks : List Value) (nss : List (List Int)) : Prop := if b = true then TKI ks nss else TK h ks nss
theorem TKI.all : ∀ {ks : List Value} {nss : List (List Int)}, TKI ks nss → ∀ v ∈ ks, ∃ n t, v = Value.int n t
  | _, _, .nil, v, hv => by simp at hv
  | _, _, .cons ⟨n, t, e, _⟩ r, v, hv => by
    rcases List.mem_cons.mp hv with rfl | hv
    · exact ⟨n, t, e⟩
    · exact TKI.all r v hv
theorem TKI.at : ∀ {ks : List Value} {nss : List (List Int)} {i : Nat}, TKI ks nss → i < ks.length → ∃ n t, ks.getD i Value.none = Value.int n t ∧ nss.getD i [] = [n]
  | _, _, 0, .cons r _, _ => r
  | _, _, i + 1, .cons _ t, hi => TKI.at (i := i) t (by simpa using hi)
theorem lex_int (n m : Int) : HT.lexLt [n] [m] = decide (n < m) := by
  rw [HT.lexLt_cons]
  by_cases h : n = m
  · rw [if_pos h, HT.lexLt_nil_nil]
    exact (decide_eq_false (by omega)).symm
  · rw [if_neg h]
theorem TK.at {h : Heap} : ∀ {ks : List Value} {nss : List (List Int)} {i : Nat}, TK h ks nss → i < ks.length → TKey h (ks.getD i Value.none) (nss.getD i [])
  | _, _, 0, .cons r _, _ => r
  | _, _, i + 1, .cons _ t, hi => TK.at (i := i) t (by simpa using hi)
/-- out is vs in the order of the keys nss -/
def SortBy {α : Type} (d : α) (vs : List α) (nss : List (List Int)) (out : List α) : Prop := ∃ p : Array Nat, PB vs.length p ∧ Up lexO (fun i => nss.getD i []) p vs.length ∧ out = p.toList.map fun i => vs.getD i d
theorem SortBy.len {α : Type} {d : α} {vs out : List α} {nss : List (List Int)} (h : SortBy d vs nss out) : out.length = vs.length := by
  obtain ⟨p, hp, _, rfl⟩ := h
  rw [List.length_map, Array.length_toList, hp.size]
theorem range_getD {α : Type} {d : α} (vs : List α) : (List.range vs.length).map (fun i => vs.getD i d) = vs := by
  refine List.ext_getElem (by simp) fun i h1 h2 => ?_
  simp [List.getD_eq_getElem?_getD, List.getElem?_eq_getElem h2]
theorem SortBy.few {α : Type} {d : α} {vs : List α} {nss : List (List Int)} (h : vs.length < 2) : SortBy d vs nss vs :=
  ⟨(List.range vs.length).toArray, by unfold PB; simp, fun i j hij hj => (show i = j by omega) ▸ lexO.le_refl _, by rw [List.toList_toArray]; exact (range_getD vs).symm⟩
theorem SortBy.zip {α : Type} {d : α} {vs out : List α} {nss : List (List Int)} (h : SortBy d vs nss out) (hl : nss.length = vs.length) : ∃ zs : List (α × List Int), zs.Perm (vs.zip nss) ∧ out = zs.map (·.1) ∧ zs.Pairwise fun a b => HT.lexLt b.2 a.2 = false := by
  obtain ⟨p, hp, hu, rfl⟩ := h
  refine ⟨p.toList.map fun i => (vs.getD i d, nss.getD i []), ?_, by rw [List.map_map]; rfl, ?_⟩
  · have e : vs.zip nss = (List.range vs.length).map fun i => (vs.getD i d, nss.getD i []) := by
      refine List.ext_getElem (by simp [hl]) fun i h1 h2 => ?_
      have h3 : i < vs.length := by simpa using h2
      have h4 : i < nss.length := by omega
      simp [List.getD_eq_getElem?_getD, List.getElem?_eq_getElem h3, List.getElem?_eq_getElem h4]
    rw [e]
    exact hp.map _
  · rw [List.pairwise_map, List.pairwise_iff_getElem]
    intro i j hi hj hij
    have z := hu i j (Nat.le_of_lt hij) (by rw [← hp.size]; simpa using hj)
    have g : ∀ k (hk : k < p.toList.length), p.getD k 0 = p.toList[k] := fun k hk => by
      have hk' : k < p.size := by simpa using hk
      simp [Array.getD, hk']
    unfold KO.le KQ at z
    rw [g i hi, g j hj] at z
    exact z
/-- two lists of pairs, told apart by the second -/
theorem vals_sort {xs : List V} {us out : List Value} {nss : List (List Int)} (r : Vals xs us) (h : SortBy Value.none us nss out) : ∃ ys, Vals ys out ∧ SortBy V.non xs nss ys := by
  obtain ⟨p, hp, hu, rfl⟩ := h
  have hl := r.length
  refine ⟨p.toList.map fun i => xs.getD i V.non, ?_, p, by rw [hl]; exact hp, by rw [hl]; exact hu, rfl⟩
  have lt : ∀ i ∈ p.toList, i < us.length := fun i hi => List.mem_range.mp (hp.mem_iff.mp hi)
  revert lt
  generalize p.toList = l
  intro lt
  induction l with
  | nil => exact .nil
  | cons i l ih =>
    refine .cons ?_ (ih fun j hj => lt j (List.mem_cons_of_mem _ hj))
    have hi := lt i (List.mem_cons_self ..)
    have hi' : i < xs.length := by omega
    obtain ⟨u, e, ru⟩ := r.get (List.getElem?_eq_getElem hi')
    show RelV (xs.getD i V.non) (us.getD i Value.none)
    rw [List.getD_eq_getElem?_getD, List.getElem?_eq_getElem hi', List.getD_eq_getElem?_getD, e]
    exact ru
/-- the sort itself -/
def kk (b : Bool) (n : Nat) : SortKind := if n < 2 then general' else if b = true then oneType' else tuples' true
theorem sort_kind {b : Bool} {β : Type} {F : SortKind → Sem β} {Q : β → Shared → Prop} {ks : List Value} {nss : List (List Int)} {n : Nat} (hk : TX b s.heap ks nss) (hl : ks.length = n) (h : wpAny (model prog w) A (F (kk b n)) Q E s) :
    wpAny (model prog w) A (if n < 2 then pure general' >>= F else keyKind' ks.toArray >>= F) Q E s := by
  unfold kk at h
  by_cases h2 : n < 2
  · rw [if_pos h2] at h ⊢
    exact wpAny_bind (wpAny_pure h)
  · rw [if_neg h2] at h ⊢
    cases b with
    | false => exact wpAny_bind (key_kind (show TK s.heap ks nss from hk) (by omega) h)
    | true =>
      refine wpAny_bind (kas_kind (T := Value.type "int") (by omega) (fun v hv => ?_) rfl rfl h)
      obtain ⟨i, t, rfl⟩ := (show TKI ks nss from hk).all v hv
      exact .now
theorem sort_core {b : Bool} {ks vs : List Value} {nss : List (List Int)} {P : SortSt → Shared → Prop} (hk : TX b s.heap ks nss) (hl : ks.length = vs.length) (h64 : vs.length < 64)
    (h : ∀ out st, SortBy Value.none vs nss out → (arrOf st).map (·.2) = out.toArray → failedOf st = none → P st s) :
    wpAny (model prog w) A ((if vs.toArray.size < 2 then pure () else sortRuns').run (SortSt.mk' (kk b vs.toArray.size) (ks.toArray.zip vs.toArray) #[] 7 none)) (fun r s' => P r.2 s') E s := by
  unfold kk
  by_cases h2 : vs.toArray.size < 2
  · rw [if_pos h2, if_pos h2, StateT.run_pure]
    refine wpAny_pure (h vs _ (.few (by simpa using h2)) ?_ rfl)
    show ((ks.toArray.zip vs.toArray).map (·.2)) = _
    apply Array.toList_inj.mp
    rw [Array.toList_map, ksk_zip]
    simp only [List.toList_toArray]
    exact List.map_snd_zip (by omega)
  · rw [if_neg h2, if_neg h2]
    have h2' : 2 ≤ vs.length := by simpa using h2
    refine kat_run (Q := fun st s' => P st s') (G := fun p s' => s' = s ∧ PB vs.length p ∧ Up lexO (fun i => nss.getD i []) p vs.length) hl h2' h64 (fun p st' s' _ ha hf ⟨e, hp, hu⟩ => ?_) ?_
    · subst e
      exact h _ st' ⟨p, hp, hu, rfl⟩ (kat_snds hl ha) hf
    · refine TAll.run (lt := lq lexO fun i => nss.getD i []) (n := vs.length) (fun i j C hi hj q => ?_) (t_sort (by omega) fun p hp hu => ⟨rfl, hp, hu⟩)
      cases b with
      | false =>
        have hk' : TK s.heap ks nss := hk
        exact key_lt (hk'.at (by omega)) (hk'.at (by omega)) q
      | true =>
        obtain ⟨n, t, e1, e2⟩ := (show TKI ks nss from hk).at (i := i) (by omega)
        obtain ⟨m, u, e3, e4⟩ := (show TKI ks nss from hk).at (i := j) (by omega)
        show wpAny _ _ (keyLt' (if true = true then oneType' else tuples' true) (ks.getD i Value.none) (ks.getD j Value.none)) C _ _
        rw [if_pos rfl, e1, e3]
        refine kat_lt_int ?_
        have q' : C (HT.lexLt (nss.getD i []) (nss.getD j [])) s := q
        rw [e2, e4, lex_int] at q'
        exact q'
/-- all but a stands as it was -/
def But (a : Addr) (h h' : Heap) : Prop := ∀ b o, b ≠ a → h.get? b = some o → h'.get? b = some o
/-- how every sort begins: the list is emptied, what it held goes into a tuple, and a list for the keys is made -/
theorem sort_head {a : Addr} {vs : List Value} {n : Nat} {P : PySem.Fin → Shared → Prop} {rest : Array Value → Nat → Value → Sem PySem.Fin} (ho : s.heap.get? a = some (seqObj "list" vs.toArray n)) (hz : vs.length ≤ sizeLine)
    (k : ∀ h' kS e, But a s.heap h' → s.heap.objs.size < kS → h'.get? a = some (seqObj "list" #[] e) → h'.get? kS = some (seqObj "list" #[] 0) → wpAny (model prog w) A (rest vs.toArray e (.ref kS)) P E { s with heap := h' }) :
    wpAny (model prog w) A (Builtin.List.listItems (.ref a) >>= fun items => Builtin.List.listUpdate (.ref a) (fun _ => #[]) >>= fun _ => seqEpoch a >>= fun e => newTuple items.toList >>= fun t => newList [] >>= fun y => holding [t, y] (rest items e y)) P E s := by
  refine wpAny_bind (listItems_at ho rfl (wpAny_bind (listUpdate_at ho rfl ?_ hz (Nat.zero_le _))))
  have g := get?_update_seq ho fun _ => (#[] : Array Value)
  have b0 : But a s.heap (s.heap.update a (Obj.mapSeq fun _ => (#[] : Array Value))) := fun b o hb e => (Heap.get?_update_other _ _ (Ne.symm hb)).trans e
  have z0 : (s.heap.update a (Obj.mapSeq fun _ => (#[] : Array Value))).objs.size = s.heap.objs.size := Heap.size_update ..
  revert g b0 z0
  generalize s.heap.update a (Obj.mapSeq fun _ => (#[] : Array Value)) = h1
  intro g b0 z0
  refine wpAny_bind (seqEpoch_at g rfl (wpAny_bind (wpAny_newTuple (wpAny_bind (wpAny_newList (wpAny_holding (k _ _ _ (fun b o hb e => Heap.get?_push_of_some _ (Heap.get?_push_of_some _ (b0 b o hb e))) ?_ (Heap.get?_push_of_some _ (Heap.get?_push_of_some _ g)) (Heap.get?_push_size _ rfl))) (Nat.zero_le _))) hz)))
  show _ < (h1.push (seqObj "tuple" vs.toArray 0)).objs.size
  rw [size_push', z0]
  exact Nat.lt_succ_self _
/-- a.sort() -/
theorem list_sort_tup {a : Addr} {vs : List Value} {nss : List (List Int)} {n : Nat} {P : PySem.Fin → Shared → Prop} (ho : s.heap.get? a = some (seqObj "list" vs.toArray n)) (hk : TK s.heap vs nss) (h64 : vs.length < 64)
    (h : ∀ h' c out, SortBy Value.none vs nss out → But a s.heap h' → h'.get? a = some (seqObj "list" out.toArray c) → P (.done (.ret .none)) { s with heap := h' }) :
    wpAny (model prog w) A (Builtin.«list.sort» ⟨[.ref a], []⟩) P E s := by
  have hz : vs.length ≤ sizeLine := by rw [sizeLine_eq]; omega
  rw [list_sort_plain]
  refine sort_head ho hz fun h2 _ e1 keep _ ho2 _ => ?_
  have hk2 : TK h2 vs nss := Paired.mapP hk fun v ns ⟨b, its, e, ⟨o, e1, c, d⟩, r⟩ => ⟨b, its, e, ⟨o, keep b o (fun z => by
      rw [z, ho] at e1
      cases e1
      exact absurd (show Value.type "list" = Value.type "tuple" from c) (by decide)) e1, c, d⟩, r⟩
  refine sort_kind (b := false) (s := { s with heap := h2 }) hk2 (by simp) ?_
  refine wpAny_bind (wpAny_mono (sort_core (b := false) (s := { s with heap := h2 }) (P := fun st s' => ∃ out, SortBy Value.none vs nss out ∧ (arrOf st).map (·.2) = out.toArray ∧ failedOf st = none ∧ s' = { s with heap := h2 }) hk2 rfl h64 fun out st a1 a2 a3 => ⟨out, a1, a2, a3, rfl⟩) (fun r s' hr => ?_) fun _ _ x => x)
  obtain ⟨⟨⟩, st⟩ := r
  obtain ⟨out, hs, hout, hf, rfl⟩ := hr
  dsimp only at hout hf ⊢
  rw [hout]
  refine wpAny_bind (seqEpoch_at ho2 rfl ?_)
  have hl := hs.len
  obtain ⟨c2, hc2⟩ : ∃ c2, (h2.update a (Obj.mapSeq fun _ => out.toArray)).get? a = some (seqObj "list" out.toArray c2) := ⟨_, get?_update_seq ho2 fun _ => out.toArray⟩
  refine wpAny_bind (listUpdate_at ho2 rfl ?_ (Nat.zero_le _) (by rw [List.size_toArray, hl]; exact Nat.le_succ_of_le hz))
  rw [hf]
  simp only [bne_self_eq_false, Bool.false_eq_true, if_false]
  exact wpAny_pure (h _ c2 out hs (fun b o hb e => (Heap.get?_update_other _ _ (Ne.symm hb)).trans (keep b o hb e)) hc2)
/-- what a source gives, laid out -/
def Collects (prog : Program) (w : World) (A : Around) (s : Shared) (src : Value) (P : List Value → Prop) : Prop := ∀ (E : Value → Shared → Prop) (Q : List Value → Shared → Prop),
  (∀ vs h' tk, P vs → (∀ b o, s.heap.get? b = some o → h'.get? b = some o) → s.heap.objs.size ≤ h'.objs.size → Q vs { s with heap := h', toks := tk }) → wpAny (model prog w) A (collect src) Q E s
theorem collects_list {l : Addr} {vs : List Value} (hl : s.heap.IsList l vs.toArray) (hz : vs.length ≤ sizeLine) : Collects prog w A s (.ref l) (fun us => us = vs) := fun E Q h => by
  refine collect_list hl (h _ _ s.toks rfl (fun b o e => ?_) (by rw [Heap.size_update, size_push']; exact Nat.le_succ _)) hz
  have hlt : b < s.heap.objs.size := Heap.lt_size e
  exact (Heap.get?_update_other _ _ (Nat.ne_of_gt hlt)).trans (Heap.get?_push_of_some _ e)
theorem collects_keys {d : Addr} {es : Array DictEntry} {ep : Nat} (hh : A.handled = none) (hd : (d == sysModules) = false) (x : DictE s.heap d es ep) (hlen : es.size ≤ sizeLine) : Collects prog w A s (.ref d) (fun us => us = es.toList.map (·.key)) := fun E Q h => by
  obtain ⟨od, hod, rd1, rd2⟩ := id x
  unfold collect
  refine wpAny_bind (wpAny_runValue (codeAny_builtin entry_proto_collect' ?_))
  show wpAny _ _ (do again (.builtin "list.__iadd__" ⟨[← newList [], .ref d], []⟩)) _ _ s
  refine wpAny_bind (wpAny_newList (wpAny_pure ⟨Code.quiet_builtin _ (by decide +kernel), codeAny_builtin entry_list_iadd' ?_⟩))
  show wpAny _ _ (Builtin.List.listExtendWith (.ref s.heap.objs.size) (.ref d) (.ref s.heap.objs.size)) _ _ { s with heap := s.heap.push (seqObj "list" #[] 0) }
  rw [Around.under_plainId (id := "list.__iadd__") (by decide +kernel)]
  have nd : s.heap.objs.size ≠ d := Nat.ne_of_gt (Heap.lt_size hod)
  refine kdl_extend (s := { s with heap := s.heap.push (seqObj "list" #[] 0) }) (A := A) (R := fun r s' => match r with
    | .ok (.ret v) => wpAny (model prog w) A (match v with
      | .ref a => do
        let o ← load a
        match o.data with
        | .seq xs _ => pure xs.toList
        | _ => unsupported "internal:collect"
      | _ => unsupported "internal:collect") Q E s'
    | .ok _ => False
    | .error e => E e s') (src_keys (ep := ep) hd) (by exact hh) ⟨od, Heap.get?_push_of_some _ hod, rd1, rd2⟩ _ nd nd _ 0 (Heap.get?_push_size _ rfl) (fun h' tk acc c hk hS it => ?_) hlen
  show wpAny (model prog w) A (do
      let o ← load s.heap.objs.size
      match o.data with
      | .seq xs _ => pure xs.toList
      | _ => unsupported "internal:collect") Q E { s with heap := h', toks := tk }
  refine wpAny_bind (wpAny_load hS ?_)
  show wpAny _ _ (pure acc.toList) Q E _
  have e : acc.toList = es.toList.map (·.key) := by
    refine List.ext_getElem? fun j => ?_
    cases h1 : acc.toList[j]? with
    | some v =>
      obtain ⟨y, h2, h3⟩ := it.2 j v (by simpa using h1)
      rw [List.getElem?_map, Array.getElem?_toList, h2, h3]
      rfl
    | none =>
      have := List.getElem?_eq_none_iff.mp h1
      have h4 := it.1
      exact (List.getElem?_eq_none (by simp at this h4 ⊢; omega)).symm
  rw [e]
  exact wpAny_pure (h _ h' tk rfl (fun b o e => hk b o (Nat.ne_of_lt (Heap.lt_size e)) (Heap.get?_push_of_some _ e)) (Nat.le_of_lt (Heap.lt_size hS)))
/-- sorted(src) -/
theorem sorted_tup {src : Value} {P : List Value → Prop} {Q : Value → Shared → Prop} (hc : Collects prog w A.in1 s src P)
    (hP : ∀ vs, P vs → vs.length < 64 ∧ ∃ nss, TK s.heap vs nss ∧
      ∀ h' tk D c out, SortBy Value.none vs nss out → (∀ b o, s.heap.get? b = some o → h'.get? b = some o) → s.heap.objs.size ≤ D → h'.get? D = some (seqObj "list" out.toArray c) → Q (.ref D) { s with heap := h', toks := tk }) :
    wpAny (model prog w) A (call (.builtin "sorted") [src]) Q E s := by
  refine Calls.call_function_entry kind_sorted plain_sorted entry_sorted (args_sorted1 _) ?_
  unfold Builtin.«sorted»
  refine wpAny_bind (m := checkCount "sorted" 1 1 _) (wpAny_pure ?_)
  refine wpAny_bind (hc _ _ fun vs h1 tk pv k1 sz => ?_)
  obtain ⟨h64, nss, hk, h⟩ := hP vs pv
  refine wpAny_bind (wpAny_newList ?_ (by rw [sizeLine_eq]; omega))
  have hk2 : TK (h1.push (seqObj "list" vs.toArray 0)) vs nss := Paired.mapP hk fun v ns ⟨b, its, e, ⟨o, e1, c, d⟩, r⟩ => ⟨b, its, e, ⟨o, Heap.get?_push_of_some _ (k1 b o e1), c, d⟩, r⟩
  refine wpAny_bind (wpAny_holding (wpAny_call_entry slot_list_sort ⟨_, Heap.get?_push_size _ rfl, rfl⟩ entry_list_sort (list_sort_tup (Heap.get?_push_size _ rfl) hk2 h64 fun h' c out hs kp ho => ⟨_, rfl, ?_⟩) (args_list_sort _)))
  exact wpAny_pure ⟨_, rfl, h h' tk _ c out hs (fun b o e => kp b o (Nat.ne_of_lt (Heap.lt_size (k1 b o e))) (Heap.get?_push_of_some _ (k1 b o e))) sz ho⟩
end
end L2

set_option linter.all false
set_option maxRecDepth 100000
set_option maxHeartbeats 4000000
namespace L2
open PySem PySem.Spec PyProof.Rows PySem.W
/-! ### a sort by keys that a function tells -/
section
variable {prog : Program} {w : World} {A : Around} {E : Value → Shared → Prop} {s : Shared}
theorem key_loop {f : Value} {kS : Addr} {vs : List Value} {body : Value → PUnit → Sem (ForInStep PUnit)} {Fin : List Value → Nat → Shared → Prop} (J : Nat → List Value → Shared → Prop) (hz : vs.length < 64)
    (hb : ∀ v ks e (s' : Shared) (C : Value → Shared → Prop), ks.length < 64 → wpAny (model prog w) A (call f [v]) (fun k s'' => s''.heap.get? kS = some (seqObj "list" ks.toArray e) ∧ C k s'') (fun _ _ => False) s' →
      wpAny (model prog w) A (body v ⟨⟩) (fun r s'' => r = .yield ⟨⟩ ∧ ∃ k s0, C k s0 ∧ s0.heap.get? kS = some (seqObj "list" ks.toArray e) ∧ ∃ h' c, s'' = { s0 with heap := h' } ∧ (∀ b o, b ≠ kS → s0.heap.get? b = some o → h'.get? b = some o) ∧ h'.get? kS = some (seqObj "list" (ks ++ [k]).toArray c)) E s')
    (step : ∀ i v ks e s', vs[i]? = some v → ks.length = i → J i ks s' → s'.heap.get? kS = some (seqObj "list" ks.toArray e) →
      wpAny (model prog w) A (call f [v]) (fun k s'' => s''.heap.get? kS = some (seqObj "list" ks.toArray e) ∧ ∀ h' c, (∀ b o, b ≠ kS → s''.heap.get? b = some o → h'.get? b = some o) → h'.get? kS = some (seqObj "list" (ks ++ [k]).toArray c) → J (i + 1) (ks ++ [k]) { s'' with heap := h' }) (fun _ _ => False) s')
    (fin : ∀ ks e s', ks.length = vs.length → J vs.length ks s' → s'.heap.get? kS = some (seqObj "list" ks.toArray e) → Fin ks e s') :
    ∀ (r : List Value) (i : Nat) (ks : List Value) (e : Nat) (s : Shared), i + r.length = vs.length → (∀ j v, r[j]? = some v → vs[i + j]? = some v) → ks.length = i → J i ks s → s.heap.get? kS = some (seqObj "list" ks.toArray e) →
      wpAny (model prog w) A (forIn r PUnit.unit body) (fun _ s' => ∃ ks e, Fin ks e s') E s
  | [], i, ks, e, s, hl, hr, hk, hJ, ho => by
    rw [List.forIn_nil]
    have e1 : i = vs.length := by simpa using hl
    subst e1
    exact wpAny_pure ⟨ks, e, fin ks e s hk hJ ho⟩
  | v :: r, i, ks, e, s, hl, hr, hk, hJ, ho => by
    rw [List.length_cons] at hl
    rw [List.forIn_cons]
    refine wpAny_bind (wpAny_mono (hb v ks e s _ (by omega) (step i v ks e s (by simpa using hr 0 v rfl) hk hJ ho)) (fun q s' hq => ?_) fun _ _ x => x)
    obtain ⟨rfl, k, s0, hC, h0, h', c, rfl, kp, hk'⟩ := hq
    exact key_loop J hz hb step fin r (i + 1) (ks ++ [k]) c _ (by omega) (fun j u hj => by
      have := hr (j + 1) u (by simpa using hj)
      rw [show i + 1 + j = i + (j + 1) by omega]
      exact this) (by simp [hk]) (hC h' c kp hk') hk'
theorem list_sort_key {a f : Addr} {vs : List Value} {n : Nat} {P : PySem.Fin → Shared → Prop} (ho : s.heap.get? a = some (seqObj "list" vs.toArray n)) (h64 : vs.length < 64) (J : Addr → Nat → Nat → List Value → Shared → Prop)
    (start : ∀ h' kS e1, (∀ b o, b ≠ a → s.heap.get? b = some o → h'.get? b = some o) → s.heap.objs.size ≤ kS → h'.get? a = some (seqObj "list" #[] e1) → h'.get? kS = some (seqObj "list" #[] 0) → kS < h'.objs.size → J kS e1 0 [] { s with heap := h' })
    (atA : ∀ kS e1 i ks s', J kS e1 i ks s' → s'.heap.get? a = some (seqObj "list" #[] e1))
    (step : ∀ kS e1 i v ks e s', a ≠ kS → vs[i]? = some v → ks.length = i → J kS e1 i ks s' → s'.heap.get? kS = some (seqObj "list" ks.toArray e) →
      wpAny (model prog w) A (call (.ref f) [v]) (fun k s'' => s''.heap.get? kS = some (seqObj "list" ks.toArray e) ∧ ∀ h' c, (∀ b o, b ≠ kS → s''.heap.get? b = some o → h'.get? b = some o) → h'.get? kS = some (seqObj "list" (ks ++ [k]).toArray c) → J kS e1 (i + 1) (ks ++ [k]) { s'' with heap := h' }) (fun _ _ => False) s')
    (fin : ∀ kS e1 ks s', a ≠ kS → J kS e1 vs.length ks s' → ks.length = vs.length → ∃ bk nss, TX bk s'.heap ks nss ∧
      ∀ h' c out, SortBy Value.none vs nss out → (∀ b o, b ≠ a → b ≠ kS → s'.heap.get? b = some o → h'.get? b = some o) → h'.get? a = some (seqObj "list" out.toArray c) → P (.done (.ret .none)) { s' with heap := h' }) :
    wpAny (model prog w) A (ksk_tree a (.ref f) false) P E s := by
  have hz : vs.length ≤ sizeLine := by rw [sizeLine_eq]; omega
  unfold ksk_tree
  refine sort_head (rest := fun items e y => ksk_rest a (.ref f) false items e y) ho hz fun h2 kS e1 keep hlt ho2 hk0 => ?_
  have hsz := Nat.le_of_lt hlt
  have hne : a ≠ kS := Nat.ne_of_lt (Nat.lt_trans (Heap.lt_size ho) hlt)
  have J0 := start h2 kS e1 keep hsz ho2 hk0 (Heap.lt_size hk0)
  unfold ksk_rest
  refine wpAny_bind (wpAny_rule ?_)
  rw [List.forIn_toArray]
  refine wpAny_bind (wpAny_mono (key_loop (kS := kS) (f := .ref f) (vs := vs) (Fin := fun ks e s' => ks.length = vs.length ∧ J kS e1 vs.length ks s' ∧ s'.heap.get? kS = some (seqObj "list" ks.toArray e)) (J kS e1) h64 (fun v ks e s' C hz hx => ?_) (fun i v ks e s' => step kS e1 i v ks e s' hne) (fun ks e s' h1 h2 h3 => ⟨h1, h2, h3⟩) vs 0 [] 0 _ (by simp) (fun j v hj => by simpa using hj) rfl J0 hk0) (fun _ s' hd => ?_) fun _ _ x => x)
  · refine wpAny_bind (wpAny_attempt (wpAny_mono hx (fun k s'' ⟨nk, hC⟩ => ?_) fun _ _ z => z.elim))
    obtain ⟨c2, hc2⟩ : ∃ c2, (s''.heap.update kS (Obj.mapSeq (·.push k))).get? kS = some (seqObj "list" (ks ++ [k]).toArray c2) := ⟨_, List.push_toArray ks k ▸ get?_update_seq nk (·.push k)⟩
    try dsimp only
    refine wpAny_bind (listUpdate_at nk rfl ?_ (by rw [List.size_toArray, sizeLine_eq]; omega) (Nat.le_trans (Nat.le_of_eq (Array.size_push ..)) (by rw [List.size_toArray, sizeLine_eq]; omega)))
    exact wpAny_pure ⟨rfl, k, s'', hC, nk, _, c2, rfl, fun b o hb e => (Heap.get?_update_other _ _ (Ne.symm hb)).trans e, hc2⟩
  · obtain ⟨ks, e, hl, hJ, hk'⟩ := hd
    obtain ⟨bk, nss, hT, hfin⟩ := fin kS e1 ks s' hne hJ hl
    have hA := atA kS e1 _ ks s' hJ
    try dsimp only
    refine wpAny_bind (listItems_at hk' rfl ?_)
    unfold ksk_end
    dsimp only
    simp only [Bool.false_eq_true, if_false]
    refine sort_kind hT (by rw [hl]; simp) ?_
    refine wpAny_bind (wpAny_mono (sort_core (P := fun st s'' => ∃ out, SortBy Value.none vs nss out ∧ (arrOf st).map (·.2) = out.toArray ∧ failedOf st = none ∧ s'' = s') hT hl h64 fun out st a1 a2 a3 => ⟨out, a1, a2, a3, rfl⟩) (fun r s'' hr => ?_) fun _ _ x => x)
    obtain ⟨⟨⟩, st⟩ := r
    obtain ⟨out, hs, hout, hf, rfl⟩ := hr
    dsimp only at hout hf ⊢
    unfold ksk_tail
    dsimp only
    rw [hout]
    have hlo := hs.len
    refine wpAny_bind (listUpdate_at hk' rfl ?_ (by rw [List.size_toArray, sizeLine_eq]; omega) (Nat.zero_le _))
    have k1 : ∀ b o, b ≠ kS → s''.heap.get? b = some o → (s''.heap.update kS (Obj.mapSeq fun _ => (#[] : Array Value))).get? b = some o := fun b o hb e => (Heap.get?_update_other _ _ (Ne.symm hb)).trans e
    have hA1 := k1 a _ hne hA
    refine wpAny_bind (wpAny_letGo ?_)
    refine wpAny_bind (seqEpoch_at hA1 rfl ?_)
    obtain ⟨c2, hc2⟩ : ∃ c2, ((s''.heap.update kS (Obj.mapSeq fun _ => (#[] : Array Value))).update a (Obj.mapSeq fun _ => out.toArray)).get? a = some (seqObj "list" out.toArray c2) := ⟨_, get?_update_seq hA1 fun _ => out.toArray⟩
    simp only [Bool.false_eq_true, if_false]
    refine wpAny_bind (listUpdate_at hA1 rfl ?_ (Nat.zero_le _) (by rw [List.size_toArray, sizeLine_eq]; omega))
    rw [hf]
    simp only [bne_self_eq_false, Bool.false_eq_true, if_false]
    exact wpAny_pure (hfin _ c2 out hs (fun b o hb hb2 e => (Heap.get?_update_other _ _ (Ne.symm hb)).trans (k1 b o hb2 e)) hc2)
/-- what is asked of a key function and of a state between its calls -/
structure KeyRun (prog : Program) (w : World) (A : Around) (s : Shared) (f : Addr) (vs : List Value) (Q : Value → Shared → Prop) (J : Addr → Addr → Nat → Nat → List Value → Shared → Prop) : Prop where
  start : ∀ h' tk a kS e1, (∀ b o, s.heap.get? b = some o → h'.get? b = some o) → s.heap.objs.size ≤ a → a < kS → h'.get? a = some (seqObj "list" #[] e1) → h'.get? kS = some (seqObj "list" #[] 0) → J a kS e1 0 [] { s with heap := h', toks := tk }
  atA : ∀ a kS e1 i ks s', J a kS e1 i ks s' → s'.heap.get? a = some (seqObj "list" #[] e1)
  step : ∀ a kS e1 i v ks e s', a ≠ kS → vs[i]? = some v → ks.length = i → J a kS e1 i ks s' → s'.heap.get? kS = some (seqObj "list" ks.toArray e) →
      wpAny (model prog w) A.in1.in1 (call (.ref f) [v]) (fun k s'' => s''.heap.get? kS = some (seqObj "list" ks.toArray e) ∧ ∀ h' c, (∀ b o, b ≠ kS → s''.heap.get? b = some o → h'.get? b = some o) → h'.get? kS = some (seqObj "list" (ks ++ [k]).toArray c) → J a kS e1 (i + 1) (ks ++ [k]) { s'' with heap := h' }) (fun _ _ => False) s'
  fin : ∀ a kS e1 ks s', a ≠ kS → J a kS e1 vs.length ks s' → ks.length = vs.length → ∃ bk nss, TX bk s'.heap ks nss ∧
      ∀ h' c out, SortBy Value.none vs nss out → (∀ b o, b ≠ a → b ≠ kS → s'.heap.get? b = some o → h'.get? b = some o) → h'.get? a = some (seqObj "list" out.toArray c) → Q (.ref a) { s' with heap := h' }
/-- sorted(src, key=f) -/
theorem sorted_key {src : Value} {f : Addr} {P : List Value → Prop} {Q : Value → Shared → Prop} (hc : Collects prog w A.in1 s src P) (hP : ∀ vs, P vs → vs.length < 64 ∧ ∃ J, KeyRun prog w A s f vs Q J) :
    wpAny (model prog w) A (call (.builtin "sorted") [src] [(Str.ofString "key", .ref f)]) Q E s := by
  refine call_function_entry_kw kind_sorted plain_sorted entry_sorted (ksk_s1 _ _) ?_
  unfold Builtin.«sorted»
  refine wpAny_bind (m := checkCount "sorted" 1 1 _) (wpAny_pure ?_)
  refine wpAny_bind (hc _ _ fun vs h1 tk pv k1 sz => ?_)
  obtain ⟨h64, J, R⟩ := hP vs pv
  refine wpAny_bind (wpAny_newList ?_ (by rw [sizeLine_eq]; omega))
  refine wpAny_bind (wpAny_holding (wpAny_call_entry_kw slot_list_sort ⟨_, Heap.get?_push_size _ rfl, rfl⟩ entry_list_sort ?body (ksk_l1 _ _)))
  case body =>
    show wpAny (model prog w) A.in1.in1 (Builtin.«list.sort» ⟨[.ref h1.objs.size], [(Str.ofString "key", .ref f)]⟩) _ _ _
    rw [ksk_t1]
    refine list_sort_key (s := { s with heap := h1.push (seqObj "list" vs.toArray 0), toks := tk }) (Heap.get?_push_size _ rfl) h64 (J h1.objs.size) (fun h' kS e1 kp hs2 hA hK _ => ?_) (R.atA h1.objs.size) (R.step h1.objs.size) fun kS e1 ks s' hne hJ hl => ?_
    · have hs3 : (h1.push (seqObj "list" vs.toArray 0)).objs.size ≤ kS := hs2
      rw [size_push'] at hs3
      exact R.start h' tk _ kS e1 (fun b o e => kp b o (Nat.ne_of_lt (Heap.lt_size (k1 b o e))) (Heap.get?_push_of_some _ (k1 b o e))) sz (by omega) hA hK
    · obtain ⟨bk, nss, hT, g⟩ := R.fin _ kS e1 ks s' hne hJ hl
      exact ⟨bk, nss, hT, fun h' c out a1 a2 a3 => ⟨_, rfl, wpAny_pure ⟨_, rfl, g h' c out a1 a2 a3⟩⟩⟩
end
end L2

set_option linter.all false
set_option maxRecDepth 100000
set_option maxHeartbeats 4000000
namespace L2
open PySem PySem.Spec PyProof.Rows PySem.W
/-! ### a lambda: made, called -/
/-- a def's table of codes; a code in it; a function that was made -/
def TabA (P : Addr) (ps : Array Value) : Heap → Prop := fun h => h.get? P = some (tabObj ps)
def CodA (c : Addr) (q : Str) : Heap → Prop := fun h => h.CodeRec (.ref c) q
def FnA (f : Addr) (o : Obj) : Heap → Prop := fun h => h.get? f = some o
/-- the table of a def that makes one lambda, ahead of the first one or behind it -/
def TabOk (H : Hp) (P : Addr) (q : Str) (pos : Pos) : Prop := ∃ ps, H P = some (.ext (TabA P ps)) ∧ (ps = #[] ∨ ∃ c, ps = #[rawInt pos.line, rawInt pos.col, .ref c] ∧ H c = some (.ext (CodA c q)))
/-- the module of the builtins -/
def BM (base : Heap) (mg : Str → Option Value) : Prop := ∃ bm ob, mg "__builtins__" = some (.ref bm) ∧ bm ≠ builtinsNs ∧ base.get? bm = some ob ∧ ob.cls = .type "module" ∧ ob.dict = some builtinsNs ∧ ob.data = .plain
theorem CodA.ok {P : Program} {w : World} {H : Hp} {h : Heap} {c : Addr} {q : Str} (x : h.CodeRec (.ref c) q) : ObjOk P w H h c (.ext (CodA c q)) := by
  obtain ⟨c', o, vs, t, e, g, r⟩ := id x
  cases e
  refine ⟨x, ⟨o, g⟩, fun h1 h2 y k => ?_⟩
  obtain ⟨c', o, vs, t, e, g, r⟩ := y
  cases e
  exact ⟨c, o, vs, t, rfl, k o g, r⟩
theorem TabA.ok {P : Program} {w : World} {H : Hp} {h : Heap} {c : Addr} {ps : Array Value} (x : h.get? c = some (tabObj ps)) : ObjOk P w H h c (.ext (TabA c ps)) := ⟨x, ⟨_, x⟩, fun h1 h2 y k => k _ y⟩
theorem FnA.ok {P : Program} {w : World} {H : Hp} {h : Heap} {c : Addr} {o : Obj} (x : h.get? c = some o) : ObjOk P w H h c (.ext (FnA c o)) := ⟨x, ⟨_, x⟩, fun h1 h2 y k => k _ y⟩
section
variable {X : Cx} {pins : List (Addr × Obj)} {σ : St} {H : Hp} {s : Shared} {E : Value → Shared → Prop}
theorem lam_make {P c : Addr} {params : Arguments} {body : Expr} {scope : Scope} {pos : Pos} {clos : List (Str × Addr)} {Q : Value → Shared → Prop} (I : Inv X pins σ H s) (hcl : closureFor scope X.env = pure clos) (hcode : X.env.code = .ref c) (hC : codeHdIn X.K c P = true)
    (hB : BM X.base X.mg) (hT : TabOk H P (X.env.qual ++ "<lambda>") pos) (hdef : defaultsOf params X.env = ([], []))
    (h : ∀ f c' ctv H' s', Inv X pins σ H' s' → SameB P H H' → TabOk H' P (X.env.qual ++ "<lambda>") pos → H f = none → f ≠ P → H' f = some (.ext (FnA f (kla_obj "<lambda>" (X.env.qual ++ "<lambda>") params body scope clos ((X.mg "__name__").getD .none) c' ctv))) →
      H' c' = some (.ext (CodA c' (X.env.qual ++ "<lambda>"))) → Q (.ref f) s') :
    wpAny (model X.prog X.w) X.A (eval (.Lambda params body scope pos) X.env) Q E s := by
  obtain ⟨ps, hP, hps⟩ := hT
  have hPh : s.heap.get? P = some (tabObj ps) := (I.hok P _ hP).1
  have hg : s.heap.Ns mainGlobals X.mg := I.mod.glob.keeps I.bk
  have hgP : mainGlobals ≠ P := fun q => by
    obtain ⟨o, es, ep, e, hd, _⟩ := hg
    rw [q, hPh] at e; cases e; cases hd
  have hb : s.heap.BuiltinsAt X.mg P := by
    obtain ⟨bm, ob, b1, b2, b3, b4, b5, b6⟩ := hB
    have b3' := I.bk _ _ b3
    refine ⟨bm, ob, b1, b2, fun q => ?_, fun q => ?_, b3', b4, b5, b6⟩
    · obtain ⟨o, es, ep, e, hd, _⟩ := hg
      rw [q, e] at b3'; cases b3'; rw [hd] at b6; cases b6
    · rw [q, hPh] at b3'; cases b3'; cases b4
  have C := codeHd_of_K I.kIn hC
  refine kla_eval hdef ?_
  rcases hps with rfl | ⟨c0, rfl, hc0⟩
  · refine kla_makeFunction (mg := X.mg) hcl I.ok.glob hg hcode C hPh trivial rfl hgP hb fun c' ctv h' tk hx hge hlt hrec htb => ?_
    have hcn : H c' = none := I.hok.fresh hge
    have hcP : c' ≠ P := fun z => by rw [z, hP] at hcn; cases hcn
    have up : ∀ b, b ≠ P → b ≠ c' → upd (upd H P (.ext (TabA P (#[] ++ #[rawInt pos.line, rawInt pos.col, .ref c'])))) c' (.ext (CodA c' (X.env.qual ++ "<lambda>"))) b = H b := fun b h1 h2 => by rw [upd_ne h2, upd_ne h1]
    have neP : ∀ b u, H b = some u → (∀ φ, u ≠ .ext φ) → b ≠ P := fun b u e n z => by rw [z, hP] at e; cases e; exact n _ rfl
    have neC : ∀ b u, H b = some u → b ≠ c' := fun b u e => ne_of_none e hcn
    have nP : ∀ b, H b = none → b ≠ P := fun b e z => by rw [z, hP] at e; cases e
    have hok : HOk X.prog X.w (upd (upd H P (.ext (TabA P (#[] ++ #[rawInt pos.line, rawInt pos.col, .ref c'])))) c' (.ext (CodA c' (X.env.qual ++ "<lambda>")))) h' := fun b u e => by
      by_cases hb : b = c'
      · subst hb
        rw [upd_same] at e; cases e
        exact CodA.ok hrec
      · rw [upd_ne hb] at e
        by_cases hb2 : b = P
        · subst hb2
          rw [upd_same] at e; cases e
          exact TabA.ok htb
        · rw [upd_ne hb2] at e
          refine (I.hok b u e).stay (fun d v hd q => hx d v ?_ q) (fun d q => by rw [up d (neP d _ q fun _ z => nomatch z) (neC d _ q)]; exact q) fun d xs q => by rw [up d (neP d _ q fun _ z => nomatch z) (neC d _ q)]; exact q
          rcases hd with z | z
          · rw [z]; exact hb2
          · exact neP d _ z fun _ z => nomatch z
    have un : Un X.fs [] H (upd (upd H P (.ext (TabA P (#[] ++ #[rawInt pos.line, rawInt pos.col, .ref c'])))) c' (.ext (CodA c' (X.env.qual ++ "<lambda>")))) s.heap h' := by
      refine ⟨fun b o q n _ _ => hx b o (nP b n) q, fun b o q n _ _ => ⟨o.slots, hx b o (nP b n) q⟩, fun b o q n _ => ?_, fun b o q _ => ?_, fun b xs q => ?_, fun b o u q => ?_, fun b ps q => ⟨#[], ?_⟩⟩
      · rw [up b (nP b n) (Nat.ne_of_lt (Nat.lt_of_lt_of_le (Heap.lt_size q) hge))]; exact n
      · by_cases hb : b = P
        · exact ⟨_, by rw [hb]; exact htb⟩
        · exact ⟨o, hx b o hb q⟩
      · rw [up b (neP b _ q fun _ z => nomatch z) (neC b _ q)]; exact q
      · rw [up b (neP b _ q fun _ z => nomatch z) (neC b _ q)]; exact q
      · rw [up b (neP b _ q fun _ z => nomatch z) (neC b _ q), q]; simp
    have I1 : Inv X pins σ _ { s with heap := h', toks := tk } := I.un un hok
    have hfn := I1.hok.fresh (Nat.le_refl h'.objs.size)
    have I2 := I1.laid (t' := tk) (a := h'.objs.size) (o := .ext (FnA h'.objs.size (kla_obj "<lambda>" (X.env.qual ++ "<lambda>") params body scope clos ((X.mg "__name__").getD .none) c' ctv))) (h' := h'.push (kla_obj "<lambda>" (X.env.qual ++ "<lambda>") params body scope clos ((X.mg "__name__").getD .none) c' ctv)) (fun b u e => Heap.get?_push_of_some _ e) (Nat.le_refl _) (FnA.ok (Heap.get?_push_size _ rfl))
    have hfP : h'.objs.size ≠ P := fun z => by
      have := Heap.lt_size htb
      rw [← z] at this
      exact Nat.lt_irrefl _ this
    have hfc : c' ≠ h'.objs.size := Nat.ne_of_lt hlt
    have hfH : H h'.objs.size = none := by rw [← up _ hfP (Ne.symm hfc)]; exact hfn
    refine h _ c' ctv _ _ I2 (fun b o e n => ?_) ⟨_, ?_, .inr ⟨c', rfl, ?_⟩⟩ hfH hfP upd_same ?_
    · rw [upd_ne (ne_of_none e hfH), up b n (neC b _ e)]; exact e
    · rw [upd_ne (Ne.symm hfP), upd_ne (Ne.symm hcP), upd_same]; rfl
    · rw [upd_ne hfc, upd_same]
    · rw [upd_ne hfc, upd_same]
  · have hf : codeAmong pos (#[rawInt pos.line, rawInt pos.col, Value.ref c0] : Array Value).toList = some (.ref c0) := codeAmong_snoc [] trivial rfl
    refine kla_makeFunctionHit (mg := X.mg) hcl I.ok.glob hg hcode C hPh trivial hf hb fun ctv h' tk hk hsz => ?_
    have hfn : H h'.objs.size = none := I.hok.fresh hsz
    have I2 := I.laid (t' := tk) (a := h'.objs.size) (o := .ext (FnA h'.objs.size (kla_obj "<lambda>" (X.env.qual ++ "<lambda>") params body scope clos ((X.mg "__name__").getD .none) c0 ctv))) (h' := h'.push (kla_obj "<lambda>" (X.env.qual ++ "<lambda>") params body scope clos ((X.mg "__name__").getD .none) c0 ctv)) (fun b u e => Heap.get?_push_of_some _ (hk b u e)) hsz (FnA.ok (Heap.get?_push_size _ rfl))
    have hfP : h'.objs.size ≠ P := Ne.symm (ne_of_none hP hfn)
    have hfc : c0 ≠ h'.objs.size := ne_of_none hc0 hfn
    refine h _ c0 ctv _ _ I2 (fun b o e n => ?_) ⟨_, ?_, .inr ⟨c0, rfl, ?_⟩⟩ hfn hfP upd_same ?_
    · rw [upd_ne (ne_of_none e hfn)]; exact e
    · rw [upd_ne (Ne.symm hfP)]; exact hP
    · rw [upd_ne hfc]; exact hc0
    · rw [upd_ne hfc]; exact hc0
/-- the context of its body -/
def lamX (X : Cx) (N' : List Str) (qual : Str) (scope : Scope) (f c' : Addr) (cl : List (Str × Addr)) (A : Around) (s : Shared) (H : Hp) : Cx :=
  { prog := X.prog, w := X.w, K := X.K, mg := X.mg, base := X.base, A := A.deeper (envX qual scope s.heap.objs.size f (.ref c') cl), N := N', s₀ := s, H₀ := H, env := envX qual scope s.heap.objs.size f (.ref c') cl, outer := X.stack,
    stack := envX qual scope s.heap.objs.size f (.ref c') cl :: X.stack, ex := [], fn := fun _ => false, calm := true, pn := [], xe := fun _ _ => False }
theorem lam_call {A : Around} {k : Nat} {f c' : Addr} {name qual x : Str} {params : Arguments} {body : Expr} {scope : Scope} {cl : List (Str × Addr)} {pm ctv u : Value} {v : V} {N' : List Str} {fr : St → St} {te : TE} {Q : VK}
    (I : Inv X pins σ H s) (hA : A.frames = some X.stack) (hr : Room (k + 1) A) (hf : s.heap.get? f = some (kla_obj name qual params body scope cl pm c' ctv)) (hcd : s.heap.CodeRec (.ref c') qual) (rv : RelV v u)
    (hbind : bindArgs (kla_fn name qual params body scope cl pm (.ref c') ctv) ⟨[u], []⟩ = pure [(x, u)]) (hx : scope.names.lookup x = some .local) (hco : scope.isCoroutine = false) (hgen : scope.isGenerator = false) (hk : scope.kind = .function)
    (hcell : ∀ y ∈ scope.names, y.2 ≠ .cell) (hN0 : N'[0]? = some x) (hcl : ∀ y c, cl.lookup y = some c → X.env.cells.lookup y = some c)
    (hhas : ∀ y, (scope.names.lookup y = some .cell ∨ scope.names.lookup y = some .free) → ∃ c, cl.lookup y = some c) (hfl : (fr σ).length + 1 = N'.length)
    (hfr : ∀ (i : Nat) (y : Str) (v' : V), N'[i + 1]? = some y → (fr σ)[i]? = some (some v') → ∃ j : Nat, X.N[j]? = some y ∧ σ[j]? = some (some v') ∧ X.env.kindOf y = some .cell ∧ scope.names.lookup y = some .free)
    (he : PE (lamX X N' qual scope f c' cl A s H) body te) (q : te (some v :: fr σ) H Q) :
    wpAny (model X.prog X.w) A (call (.ref f) [u]) (fun u' s' => ∃ v' H', Inv X pins σ H' s' ∧ RelV v' u' ∧ Q v' H') (fun _ _ => False) s := by
  refine wpAny_call (kla_callFunE hr.depth hf rfl hco hgen rfl hcd ?_)
  rw [hbind]
  refine wpAny_pure (wpAny_newFunctionEnv hcell (fun y hy => ?_) (fun h₁ hns hsb => ⟨(I.nolimit).fresh _ hsb, ?_⟩) hk)
  · have : y = (x, u) := by simpa using hy
    rw [this]
    exact hx
  show codeAny _ _ (.expr body (envX qual scope s.heap.objs.size f (.ref c') cl)) _ _
  have hk₁ : ∀ b o, s.heap.get? b = some o → h₁.get? b = some o := fun b o e => hsb.extBut b o (Nat.ne_of_lt (Heap.lt_size e)) (Heap.get?_push_of_some _ e)
  have nox : ∀ b : Addr, b ∉ (lamX X N' qual scope f c' cl A s H).ex := fun b z => absurd (show b ∈ ([] : List Addr) from z) (by simp)
  have ok : (lamX X N' qual scope f c' cl A s H).Ok := ⟨I.ok.mod, hk, rfl, rfl, Nat.le_refl _, fun y z c h1 h2 => I.ok.inj y z c (hcl y c h1) (hcl z c h2), fun y hy => hhas y hy, fun y c z _ => absurd (show false = true from z) (by decide), fun _ => hr.hd, Around.frames_deeper hA, .inr ⟨rfl, rfl⟩,
    fun b z => absurd z (nox b), I.bs, Nat.le_trans I.ok.bsz I.sz, fun b _ _ => nox b, fun b z => absurd z (nox b), I.stack, I.stkFree⟩
  have IB : Inv (lamX X N' qual scope f c' cl A s H) [] (some v :: fr σ) H { s with heap := h₁, toks := s.toks + ([(x, u)] : List (Str × Value)).length } := by
    refine ⟨ok, rfl, I.bare, Un.kept hk₁, ⟨_, hns, fun i y v' e1 e2 e3 => ?_⟩, fun y c e => ?_, I.hok.fresh (Nat.le_refl _), fun y c e => I.freeC y c (hcl y c e), fun p hp => by simp [lamX] at hp, I.hok.kept hk₁, by simpa [lamX] using hfl⟩
    · cases i with
      | zero =>
        have ey : x = y := Option.some.inj (hN0.symm.trans e1)
        subst ey
        have ev : v = v' := by simpa using e2
        subst ev
        refine ⟨u, rv, .inl ⟨hx, ?_⟩⟩
        show ([(x, u)] : List (Str × Value)).reverse.lookup x = some u
        simp
      | succ i =>
        obtain ⟨j, n1, n2, n3, n4⟩ := hfr i y v' e1 (by simpa using e2)
        obtain ⟨m, _, hl⟩ := I.loc
        obtain ⟨u', r, l⟩ := hl j y v' n1 n2 (.inr (.inl n3))
        refine ⟨u', r, .inr ⟨.inr n4, ?_⟩⟩
        rcases l with ⟨k, _⟩ | ⟨_, c, e, ic⟩
        · rw [n3] at k; cases k
        · obtain ⟨c2, e'⟩ := hhas y (.inr n4)
          have e'' := hcl y c2 e'
          rw [e] at e''; cases e''
          obtain ⟨o, ho, hd⟩ := ic
          exact ⟨c, e', o, hk₁ c o ho, hd⟩
    · obtain ⟨v', o, ho, hd⟩ := I.cell y c (hcl y c e)
      exact ⟨v', o, hk₁ c o ho, hd⟩
  refine kla_codeExpr (wpAny_mono (he [] _ _ H Q IB q) (fun u' s' ⟨v', H', J, r', q'⟩ => ?_) fun _ _ z => z.elim)
  exact ⟨v', H', I.call' (s' := s') (ch := []) J.os J.base J.hok J.bare (fun b hb => by simp at hb), r', q'⟩
end
end L2

set_option linter.all false
set_option maxRecDepth 100000
set_option maxHeartbeats 4000000
namespace L2
open PySem PySem.Spec PyProof.Rows PySem.W
/-! ### sorted in the layer -/
/-- what a source gives, told by the heap -/
abbrev SRC := V → Hp → (List V → Prop) → Prop
def SrcOk (X : Cx) (src : SRC) : Prop := ∀ (pins : List (Addr × Obj)) (s : Shared) (σ : St) (H : Hp) (x : V) (u : Value) (R : List V → Prop), Inv X pins σ H s → RelV x u → src x H R → ∃ ys, R ys ∧ Collects X.prog X.w X.A.in1 s u (fun us => Vals ys us)
def srcL (K : PySem.W.Frag) : SRC := fun x H R => ∃ l ys, x = .ref l ∧ SqL K H l ys ∧ R ys
/-- the keys of a dict, as they lie -/
def KeysD (H : Hp) (kvs : List (List Key × V)) (ys : List V) : Prop := Paired (fun y (p : List Key × V) => ∃ a, y = V.ref a ∧ H a = some (.tup (p.1.map kV))) ys kvs
def srcD : SRC := fun x H R => ∃ d kvs, x = .ref d ∧ H d = some (.dT kvs) ∧ ∀ ys, KeysD H kvs ys → (kvs.map (·.1)).Nodup → R ys
section
variable {X : Cx}
theorem srcOk_list : SrcOk X (srcL X.K) := fun pins s σ H x u R I r ⟨l, ys, e, h, q⟩ => by
  subst e
  cases r
  obtain ⟨its, rv, ⟨o, n, e, hc, hd, hs⟩, hz⟩ := I.list h
  exact ⟨ys, q, fun E Q h => collects_list ⟨o, e, hc, n, hs⟩ (by rw [← rv.length]; exact hz) E Q fun us h' tk e => h us h' tk (by rw [e]; exact rv)⟩
theorem keysD_of {P : Program} {w : World} {H : Hp} {knd : HeapKind P w (List Key)} : ∀ {kvs : List (List Key × V)} {xs : List (List Key × Addr × Value)}, Paired (fun (p : List Key × V) (q : List Key × Addr × Value) => p.1 = q.1 ∧ H q.2.1 = some (.tup (p.1.map kV)) ∧ RelV p.2 q.2.2) kvs xs →
    KeysD H kvs (xs.map fun q => V.ref q.2.1) ∧ Vals (xs.map fun q => V.ref q.2.1) ((xs.map (entryOfKey knd)).map (·.key)) ∧ kvs.map (·.1) = xs.map (·.1)
  | _, _, .nil => ⟨.nil, .nil, rfl⟩
  | _, _, .cons r t => by
    obtain ⟨h1, h2, h3⟩ := keysD_of (knd := knd) t
    exact ⟨.cons ⟨_, rfl, r.2.1⟩ h1, .cons rfl h2, by simp [r.1, h3]⟩
theorem srcOk_dict (hc : X.calm = true) : SrcOk X srcD := fun pins s σ H x u R I r ⟨d, kvs, e, h, q⟩ => by
  subst e
  cases r
  obtain ⟨hz, hne, xs, hp, o, es, ep, ho, hx, hd, he, hn⟩ := (show ObjOk X.prog X.w H s.heap d (.dT kvs) from I.hok d _ h)
  obtain ⟨k1, k2, k3⟩ := keysD_of (knd := tupleKind (mixKind X.prog X.w)) hp
  rw [← he] at k2
  refine ⟨_, q _ k1 (by rw [k3]; exact hn), fun E Q h => collects_keys (by exact I.ok.hd hc) hne ⟨o, ho, hx, hd⟩ ?_ E Q fun us h' tk e => h us h' tk (by rw [e]; exact k2)⟩
  have e1 := hp.length
  have e2 : es.size = xs.length := by
    have := congrArg List.length he
    simpa using this
  omega
/-- what was pinned or not, tracked now: the list at a, where kS may have changed too -/
theorem Inv.take {pins : List (Addr × Obj)} {σ : St} {H : Hp} {s : Shared} {a kS : Addr} {h' : Heap} {ys : List V} {us : List Value} {c : Nat} {t' : Nat} (I : Inv X pins σ H s) (fa : FpOk X pins H a) (fk : FpOk X pins H kS) (k : ∀ b o, b ≠ a → b ≠ kS → s.heap.get? b = some o → h'.get? b = some o)
    (ho : h'.get? a = some (seqObj "list" us.toArray c)) (rv : Vals ys us) (hz : ys.length ≤ sizeLine) : Inv X pins σ (upd H a (.lst ys)) { s with heap := h', toks := t' } := by
  have na : ∀ b u, H b = some u → b ≠ a := fun b u e => ne_of_none e fa.1
  have nk : ∀ b u, H b = some u → b ≠ kS := fun b u e => ne_of_none e fk.1
  have neL : ∀ b, b ∉ ([a, kS] : List Addr) → b ≠ a ∧ b ≠ kS := fun b hb => ⟨fun z => hb (by simp [z]), fun z => hb (by simp [z])⟩
  refine I.step (g' := s.gens) (d' := s.drawn) (ch := [a, kS]) (fun b hb => ?_) (fun b o _ _ hc e _ => k b o (neL b hc).1 (neL b hc).2 e) (fun b o _ _ hc e _ => ⟨o.slots, k b o (neL b hc).1 (neL b hc).2 e⟩) (fun b o hc _ n => by rw [upd_ne (neL b hc).1]; exact n)
    (fun b o hc e => ⟨o, k b o (neL b hc).1 (neL b hc).2 e⟩) (fun b xs e => by rw [upd_ne (na b _ e)]; exact e) (fun b o u e => by rw [upd_ne (na b _ e)]; exact e) (fun b ps e => ⟨#[], by rw [upd_ne (na b _ e), e]; simp⟩) (fun m hm => ?_) (fun b u e => ?_) I.bare
  · rcases List.mem_cons.mp hb with rfl | hb
    · exact ⟨fa.2.2.2.1, fa.2.1, fa.2.2.2.2.1, fa.2.2.2.2.2⟩
    · have e : b = kS := by simpa using hb
      subst e
      exact ⟨fk.2.2.2.1, fk.2.1, fk.2.2.2.2.1, fk.2.2.2.2.2⟩
  · obtain ⟨o, es, ep, ho', r⟩ := hm
    exact ⟨o, es, ep, k _ o (Ne.symm fa.2.1) (Ne.symm fk.2.1) ho', r⟩
  · by_cases hb : b = a
    · subst hb
      rw [upd_same] at e; cases e
      exact ⟨hz, us, c, rv, ho⟩
    · rw [upd_ne hb] at e
      refine (I.hok b u e).stay (fun d v hd q => ?_) (fun d q => by rw [upd_ne (na d _ q)]; exact q) fun d xs q => by rw [upd_ne (na d _ q)]; exact q
      rcases hd with z | z
      · rw [z] at q ⊢; exact k b v hb (nk b u e) q
      · exact k d v (na d _ z) (nk d _ z) q
theorem tkeys_of {pins : List (Addr × Obj)} {σ : St} {H : Hp} {s : Shared} (I : Inv X pins σ H s) : ∀ {kvs : List V} {ks : List Value} {nss : List (List Int)}, Vals kvs ks → TupsT H kvs nss → (∀ ns ∈ nss, ns ≠ []) → TK s.heap ks nss
  | _, _, _, .nil, .nil, _ => .nil
  | _, _, _, .cons r t, .cons z zs, hne => by
    refine .cons ?_ (tkeys_of I t zs fun ns hns => hne ns (List.mem_cons_of_mem _ hns))
    obtain ⟨a, rfl, ha⟩ := z
    cases r
    obtain ⟨_, its, rv, ht⟩ := (show ObjOk X.prog X.w H s.heap a (.tup _) from I.hok a _ ha)
    exact ⟨a, its, rfl, ht, intsAre_of rv, hne _ (List.mem_cons_self ..)⟩
/-- sorted(x), x a source of tuples of ints -/
def rSortT (src : SRC) : List V → Hp → VK → Prop := fun xs H Q => ∃ x, xs = [x] ∧ src x H fun ys => ys.length < 64 ∧ ∃ nss, TupsT H ys nss ∧ (∀ ns ∈ nss, ns ≠ []) ∧ ∀ D zs, H D = none → SortBy .non ys nss zs → Q (.ref D) (upd H D (.lst zs))
theorem call_sortT {src : SRC} (hs : SrcOk X src) : CallR X (.builtin "sorted") (rSortT src) := by
  intro pins s σ H vs us Q I r q
  obtain ⟨x, rfl, q⟩ := q
  obtain ⟨u, rfl, ru⟩ := vals1 r
  obtain ⟨ys, ⟨hz, nss, ht, hne, q⟩, hc⟩ := hs pins s σ H x u _ I ru q
  refine sorted_tup hc fun us rv => ⟨by rw [← rv.length]; exact hz, nss, tkeys_of I rv ht hne, fun h' tk D c out ho kp hD hl => ?_⟩
  obtain ⟨zs, rz, hzs⟩ := vals_sort rv ho
  have hz2 : zs.length ≤ sizeLine := by
    rw [hzs.len]
    exact Nat.le_trans (Nat.le_of_lt hz) (by decide)
  exact ⟨.ref D, _, I.laid (t' := tk) (o := .lst zs) kp hD (show ObjOk X.prog X.w _ h' D (.lst zs) from ⟨hz2, out, c, rz, hl⟩), rfl, q D zs (I.hok.fresh hD) hzs⟩
/-- a key: a tuple of ints, or an int (b) -/
def KeyV (b : Bool) (H : Hp) (k : V) (ns : List Int) : Prop := if b = true then ∃ n, k = .int n ∧ ns = [n] else TupT H k ns
theorem KeyV.same {b : Bool} {H H' : Hp} {k : V} {ns : List Int} (h : KeyV b H k ns) (s : Same H H') : KeyV b H' k ns := by
  cases b with
  | true => exact h
  | false => exact TupT.same h s
theorem txs_of {b : Bool} {pins : List (Addr × Obj)} {σ : St} {H : Hp} {s : Shared} (I : Inv X pins σ H s) {kvs : List V} {ks : List Value} {nss : List (List Int)} (rv : Vals kvs ks) (h : Paired (KeyV b H) kvs nss) (hne : ∀ ns ∈ nss, ns ≠ []) : TX b s.heap ks nss := by
  cases b with
  | false => exact tkeys_of I rv h hne
  | true =>
    show TKI ks nss
    induction h generalizing ks with
    | nil => cases rv; exact .nil
    | cons p t ih =>
      cases rv with
      | cons r rs =>
        obtain ⟨n, rfl, e⟩ := p
        obtain ⟨t', e'⟩ := r
        exact .cons ⟨n, t', e', e⟩ (ih rs fun ns h => hne ns (List.mem_cons_of_mem _ h))
/-- sorted(x, key=lambda y: ..) -/
def tSortK (bk : Bool) (P : Addr) (q : Str) (lp : Pos) (ta : TA) (src : SRC) (fr : St → St) (te : TE) : TE := fun σ H Q => ta σ H fun xs H1 => ∃ x, xs = [x] ∧ TabOk H1 P q lp ∧ ∀ H2, SameB P H1 H2 → TabOk H2 P q lp → src x H2 fun ys => ys.length < 64 ∧
  ∃ kf : V → List Int, (∀ y ∈ ys, kf y ≠ [] ∧ ∀ H3, Same H2 H3 → te (some y :: fr σ) H3 fun k H4 => Same H3 H4 ∧ KeyV bk H4 k (kf y)) ∧ ∀ H3 D zs, Same H2 H3 → H3 D = none → SortBy .non ys (ys.map kf) zs → Q (.ref D) (upd H3 D (.lst zs))
theorem pe_sortK {bk : Bool} {k : Nat} {P c : Addr} {arg body : Expr} {params : Arguments} {scope : Scope} {lp kp p pos : Pos} {x : Str} {clos : List (Str × Addr)} {N' : List Str} {fr : St → St} {ta : TA} {te : TE} {src : SRC} {q : Str}
    (hr : Room (k + 3) X.A) (hg : Gl X "sorted") (hm : X.mg "sorted" = none) (ha : PA X [arg] ta) (hs : SrcOk X src) (hq : X.env.qual ++ "<lambda>" = q)
    (hcl : closureFor scope X.env = pure clos) (hcode : X.env.code = .ref c) (hC : codeHdIn X.K c P = true) (hB : BM X.base X.mg) (hdef : defaultsOf params X.env = ([], []))
    (hbind : ∀ (c' : Addr) (ctv u : Value), bindArgs (kla_fn "<lambda>" q params body scope clos ((X.mg "__name__").getD .none) (.ref c') ctv) ⟨[u], []⟩ = pure [(x, u)]) (hx : scope.names.lookup x = some .local) (hco : scope.isCoroutine = false) (hgen : scope.isGenerator = false) (hk : scope.kind = .function)
    (hcell : ∀ y ∈ scope.names, y.2 ≠ .cell) (hN0 : N'[0]? = some x) (hcl2 : ∀ y c, clos.lookup y = some c → X.env.cells.lookup y = some c)
    (hhas : ∀ y, (scope.names.lookup y = some .cell ∨ scope.names.lookup y = some .free) → ∃ c, clos.lookup y = some c) (hfl : ∀ σ : St, σ.length = X.N.length → (fr σ).length + 1 = N'.length)
    (hfr : ∀ (σ : St) (i : Nat) (y : Str) (v' : V), N'[i + 1]? = some y → (fr σ)[i]? = some (some v') → ∃ j : Nat, X.N[j]? = some y ∧ σ[j]? = some (some v') ∧ X.env.kindOf y = some .cell ∧ scope.names.lookup y = some .free)
    (he : ∀ f c' s0 H0, PE (lamX X N' q scope f c' clos X.A.in1.in1 s0 H0) body te)
    (hst : backTo pos (starEach [arg] X.env) = (false, eval arg X.env) :: backTo pos (starEach [] X.env) := by rfl) (hpl : (backTo pos (starEach [arg] X.env)).any (·.1) = false := by rfl) :
    PE X (.Call (.Name "sorted" p) [arg] [⟨some "key", .Lambda params body scope lp, kp⟩] pos) (tSortK bk P q lp ta src fr te) := by
  intro pins s σ H Q I h
  subst hq
  refine wpAny_Call_Name_kw (ld_blt I hg hm (u := .builtin "sorted") rfl ?_)
  refine callWith_kw ?_ hst hpl rfl rfl
  refine thn (ha pos pins s σ H _ I h) fun us s1 ⟨xs, H1, I1, r1, z, e, hT, q1⟩ => ?_
  subst e
  obtain ⟨u, rfl, ru⟩ := vals1 r1
  refine kws_cons (lam_make I1 hcl hcode hC hB hT hdef fun f c' ctv H2 s2 I2 sb hT2 hf hfP hf2 hc2 => kws_nil ?_)
  obtain ⟨ys, ⟨hz, kf, hkey, q2⟩, hc⟩ := hs pins s2 σ H2 z u _ I2 ru (q1 H2 sb hT2)
  show wpAny _ _ (call (.builtin "sorted") [u] [(Str.ofString "key", .ref f)]) _ _ _
  refine sorted_key hc fun us rv => ?_
  have hlen := rv.length
  refine ⟨by rw [← hlen]; exact hz, fun a kS e1 i ks s' => ∃ H3 kvs e, Inv X pins σ H3 s' ∧ FpOk X pins H3 a ∧ FpOk X pins H3 kS ∧ s'.heap.get? a = some (seqObj "list" #[] e1) ∧ s'.heap.get? kS = some (seqObj "list" ks.toArray e) ∧ Vals kvs ks ∧ Same H2 H3 ∧ Paired (KeyV bk H3) kvs ((ys.take i).map kf), ⟨fun h' tk a kS e1 kp sz lt hA hK => ?_, fun a kS e1 i ks s' ⟨_, _, _, _, _, _, h, _⟩ => h, fun a kS e1 i v ks e s' hne hv hl hJ hK => ?_, fun a kS e1 ks s' hne hJ hl => ?_⟩⟩
  · have szk : s2.heap.objs.size ≤ kS := Nat.le_of_lt (Nat.lt_of_le_of_lt sz lt)
    exact ⟨H2, [], 0, I2.kept (t' := tk) kp, I2.fpOk sz (I2.hok.fresh sz), I2.fpOk szk (I2.hok.fresh szk), hA, hK, .nil, .refl _, by simp; exact .nil⟩
  · obtain ⟨H3, kvs, e', I3, fa, fk, hA, hK', rk, sm, tk⟩ := hJ
    obtain ⟨y, hy, ry⟩ : ∃ y, ys[i]? = some y ∧ RelV y v := by
      cases h1 : ys[i]? with
      | none => rw [Vals.none_of rv h1] at hv; cases hv
      | some y =>
        obtain ⟨u', h2, h3⟩ := rv.get h1
        rw [hv] at h2; cases h2
        exact ⟨y, rfl, h3⟩
    have hym : y ∈ ys := List.mem_of_getElem? hy
    have IP : Inv X (pins ++ [(a, seqObj "list" #[] e1), (kS, seqObj "list" ks.toArray e)]) σ H3 s' := I3.pins_of fun p hp => by
      rcases List.mem_append.mp hp with hp | hp
      · exact I3.pin p (List.mem_append_right _ hp)
      · rcases List.mem_cons.mp hp with rfl | hp
        · exact ⟨hA, fa.1, fa.2.1, fa.2.2.1, fun _ z => nomatch z⟩
        · have ep : p = (kS, seqObj "list" ks.toArray e) := by simpa using hp
          subst ep
          exact ⟨hK, fk.1, fk.2.1, fk.2.2.1, fun _ z => nomatch z⟩
    have hfh : s'.heap.get? f = some _ := (I3.hok f _ (sm _ _ hf2)).1
    have hch : s'.heap.CodeRec (.ref c') _ := (I3.hok c' _ (sm _ _ hc2)).1
    refine thn (lam_call (A := X.A.in1.in1) (k := k) IP I.ok.frames hr.in1.in1 hfh hch ry (hbind c' ctv v) hx hco hgen hk hcell hN0 hcl2 hhas (hfl σ I3.len) (hfr σ) (he f c' s' H3) ((hkey y hym).2 H3 sm)) fun kv s4 ⟨k4, H4, I4, r4, s34, t4⟩ => ?_
    have pA := I4.pin (a, seqObj "list" #[] e1) (List.mem_append_right _ (List.mem_append_right _ (List.mem_cons_self ..)))
    have pK := I4.pin (kS, seqObj "list" ks.toArray e) (List.mem_append_right _ (List.mem_append_right _ (List.mem_cons_of_mem _ (List.mem_cons_self ..))))
    have I4' : Inv X pins σ H4 s4 := I4.unpinned
    refine ⟨pK.1, fun h' cc kp hk' => ⟨H4, kvs ++ [k4], cc, ?_, ⟨pA.2.1, fa.2⟩, ⟨pK.2.1, fk.2⟩, kp _ _ hne pA.1, hk', rk.append (.cons r4 .nil), sm.trans s34, ?_⟩⟩
    · exact I4'.turned (t' := s4.toks) kp pK.2.1 fk.2.1 fk.2.2.2.1 fk.2.2.2.2.1 fk.2.2.2.2.2
    · have e5 : ys.take (i + 1) = ys.take i ++ [y] := by
        rw [List.take_add_one, hy]; rfl
      rw [e5, List.map_append]
      exact Paired.snoc (Paired.mapP tk fun _ _ z => KeyV.same z s34) t4
  · obtain ⟨H3, kvs, e', I3, fa, fk, hA, hK', rk, sm, tk⟩ := hJ
    rw [← hlen, List.take_length] at tk
    refine ⟨bk, ys.map kf, txs_of I3 rk tk (fun ns hns => ?_), fun h' cc out ho kp hl' => ?_⟩
    · obtain ⟨y, hy, rfl⟩ := List.mem_map.mp hns
      exact (hkey y hy).1
    · obtain ⟨zs, rz, hzs⟩ := vals_sort rv ho
      have hz2 : zs.length ≤ sizeLine := by
        rw [hzs.len]
        exact Nat.le_trans (Nat.le_of_lt hz) (by decide)
      exact ⟨.ref a, _, I3.take (t' := s'.toks) fa fk kp hl' rz hz2, rfl, q2 H3 a zs sm fa.1 hzs⟩
end
end L2

set_option linter.all false
set_option maxRecDepth 100000
set_option maxHeartbeats 4000000
namespace L2
open PySem PySem.Spec PyProof.Rows PySem.W
theorem Room.units65 {k : Nat} {A : Around} (r : Room k A) : A.units + 65 < cLine := by have := r.un; omega
section
open PySem.SeqAt PyProof.V
variable {X : Cx}
/-- x in y, y a list of tuples of ints -/
def rInT (K : PySem.W.Frag) : R2 := fun x y H Q => ∃ p ys nss ns, y = .ref p ∧ SqL K H p ys ∧ Paired (TupI K H) ys nss ∧ TupI K H x ns ∧ Q (.bl (decide (ns ∈ nss))) H
theorem map_int_inj : ∀ {a b : List Int}, a.map V.int = b.map V.int → a = b
  | [], [], _ => rfl
  | [], _ :: _, h => by cases h
  | _ :: _, [], h => by cases h
  | x :: a, y :: b, h => by
    simp only [List.map_cons, List.cons.injEq, V.int.injEq] at h
    rw [h.1, map_int_inj h.2]
open Classical in
noncomputable def hitT (K : PySem.W.Frag) (H : Hp) (ns : List Int) : Value → Bool
  | .ref a => decide (TupI K H (.ref a) ns)
  | _ => false
open Classical in
theorem hit_any {pins : List (Addr × Obj)} {σ : St} {H : Hp} {s : Shared} {ns : List Int} (I : Inv X pins σ H s) : ∀ {ys : List V} {us : List Value} {nss : List (List Int)}, Vals ys us → Paired (TupI X.K H) ys nss → us.any (hitT X.K H ns) = decide (ns ∈ nss) ∧ ∀ u ∈ us, ∃ y ms, RelV y u ∧ TupI X.K H y ms ∧ hitT X.K H ns u = decide (ms = ns)
  | _, _, _, .nil, .nil => ⟨by simp, fun u hu => by simp at hu⟩
  | _, _, _, .cons (a := y) (b := u) r t, .cons (b := ms) p q => by
    obtain ⟨h1, h2⟩ := hit_any (ns := ns) I t q
    have e : hitT X.K H ns u = decide (ms = ns) := by
      obtain ⟨a, rfl, ha⟩ := id p
      cases r
      show decide (TupI X.K H (.ref a) ns) = _
      by_cases hm : ms = ns
      · rw [decide_eq_true hm, decide_eq_true (hm ▸ p)]
      · rw [decide_eq_false hm, decide_eq_false]
        rintro ⟨b, eb, hb⟩
        cases eb
        have := I.tuple_inj ha hb
        exact hm (map_int_inj this)
    refine ⟨?_, fun v hv => ?_⟩
    · rw [List.any_cons, h1, e]
      by_cases hm : ms = ns
      · simp [hm]
      · simp [hm, Ne.symm hm]
    · rcases List.mem_cons.mp hv with rfl | hv
      · exact ⟨y, ms, r, p, e⟩
      · exact h2 v hv
theorem op_inT (hu : X.A.units + 65 < cLine) : OpR X (compareOp .In) (rInT X.K) := by
  intro pins s σ H x y v u Q I rx ry h
  obtain ⟨p, ys, nss, ns, rfl, hq, pt, tx, q⟩ := h
  cases ry
  obtain ⟨its, r, pl, hz⟩ := I.list hq
  obtain ⟨h1, h2⟩ := hit_any (ns := ns) I r pt
  refine SeqAt.in_listAt (hitT X.K H ns) pl.isList (fun w hw => ?_) ⟨.bl _, H, I, rfl, ?_⟩
  · obtain ⟨z, ms, rz, tz, e⟩ := h2 w (by simpa using hw)
    rw [e]
    obtain ⟨a, rfl, ha⟩ := id tz
    obtain ⟨b, rfl, hb⟩ := id tx
    cases rz
    cases rx
    by_cases hab : a = b
    · subst hab
      have e2 : ms = ns := map_int_inj (I.tuple_inj ha hb)
      rw [decide_eq_true e2]
      exact SeqAt.EqAt.same _
    · refine SeqAt.EqAt.of_refs hab fun prog w E Q' hq' => ?_
      refine eq_dataH_same (I.tupI (v := .ref a) rfl tz) (I.tupI (v := .ref b) rfl tx) (shaped_ti ms) (shaped_ti ns) (by show X.A.units + 1 + 64 < _; omega) (by simp only [noMix]; exact PySem.W.noMix_ints ms ns) ?_
      rw [show PySem.Spec.same (PyData.tuple (ms.map PyData.int)) (PyData.tuple (ns.map PyData.int)) = decide (ms = ns) by simp only [PySem.Spec.same]; rw [PySem.W.same_ints]]
      exact hq'
  · rw [show its.toArray.any (hitT X.K H ns) = its.any (hitT X.K H ns) by simp, h1]
    exact q
/-- list(d), d a dict whose keys are tuples -/
def rListD : List V → Hp → VK → Prop := fun xs H Q => ∃ d kvs, xs = [.ref d] ∧ H d = some (.dT kvs) ∧ ∀ ys l, KeysD H kvs ys → (kvs.map (·.1)).Nodup → H l = none → Q (.ref l) (upd H l (.lst ys))
theorem call_listD (hc : X.calm = true) : CallR X (.type "list") rListD := by
  intro pins s σ H vs us Q I r q
  obtain ⟨d, kvs, rfl, hd, q⟩ := q
  obtain ⟨u, rfl, ru⟩ := vals1 r
  cases ru
  obtain ⟨hz, hne, xs, hp, o, es, ep, ho, hx, hdd, he, hn⟩ := (show ObjOk X.prog X.w H s.heap d (.dT kvs) from I.hok d _ hd)
  obtain ⟨k1, k2, k3⟩ := keysD_of (knd := tupleKind (mixKind X.prog X.w)) hp
  have e1 := hp.length
  have e2 : es.size = xs.length := by
    have := congrArg List.length he
    simpa using this
  refine call_list_keys (I.ok.hd hc) hne ⟨o, ho, hx, hdd⟩ (by omega) fun h' tk acc' c' kp e it => ?_
  rw [← he] at k2
  refine ⟨.ref s.heap.objs.size, _, I.laid (t' := tk) kp (Nat.le_refl _) (show ObjOk X.prog X.w _ h' _ (.lst (xs.map fun q => V.ref q.2.1)) from ⟨by rw [List.length_map]; omega, acc'.toList, c', items_vals k2 (by simpa using it.1) fun j v hj => ?_, by simpa using e⟩), rfl, q _ _ k1 (by rw [k3]; exact hn) (I.hok.fresh (Nat.le_refl _))⟩
  obtain ⟨y, h1, h2⟩ := it.2 j v (by simpa using hj)
  rw [h2, List.getElem?_map, Array.getElem?_toList, h1]
  rfl
end
/-- a def that makes a lambda: its code is known -/
theorem Fun.okL {P : Program} {w : World} {K : PySem.W.Frag} {mg : Str → Option Value} {base : Heap} {x qual : Str} {st : Stmt} {f c : Addr} {fd : FuncData} {N ps : List Str} {k : Nat} {sp : Sp} (F : Fun K x qual st f fd) (hc : fd.code = .ref c) (S : FnScope N ps (defScope st))
    (len : ∀ vs H Q E, sp vs H Q E → vs.length = ps.length)
    (hbody : ∀ (A : Around) (outer : List Env) (s : Shared) (H : Hp) (vs : List V) (Q : VK) (E : XK), Room k (A.deeper (envOfC qual (defScope st) s.heap.objs.size f (.ref c))) → sp vs H Q E →
      ∃ t, PSs (cxOf CX0 P w K mg base N qual (defScope st) f (.ref c) A outer s H E).nox (defBody st) t ∧ t { nx := fun _ H' => Q .non H', rt := Q } (start N vs) H) : FnOk P w K mg base CX0 (k + 1) f fd ps sp := by
  obtain ⟨oc, od, kV, doc, pm, an, cdv, ct, osl, e, lk, hcd⟩ := F.ex
  subst e
  have e2 : cdv = .ref c := hc
  subst e2
  exact fn_of lk hcd S len fun A outer s H vs Q E hr hsp => let ⟨t, h, q⟩ := hbody A outer s H vs Q E hr hsp; ⟨t, h.nox, q⟩
/-! ### the head of a law whose text makes lambdas: the tables of their defs are tracked -/
theorem law_callT {P : Program} {w : World} {K : PySem.W.Frag} {mg mb : Str → Option Value} {k : Nat} {fa a : Addr} {fd : FuncData} {x : Str} {sp : Sp} {s₁ : Shared} {vs : List Value} {ns : List Int} {ts : List Addr}
    (KX : K.In s₁.heap) (hns : s₁.heap.Ns mainGlobals mg) (hb : s₁.heap.Ns builtinsNs mb) (hbb : ∀ x : Str, x ≠ "__name__" → mb x = bootBuiltins x) (hlim : s₁.heap.NoLimit) (hg : s₁.gens = #[])
    (ha : s₁.heap.get? a = some { cls := .type "list", data := .seq vs.toArray }) (hi : IntsAre vs ns) (hl : ns.length ≤ sizeLine) (hr : Room k callerA)
    (hT : ∀ p ∈ ts, s₁.heap.get? p = some (tabObj #[]) ∧ K.lookup p = none ∧ isCodeTable s₁.heap p) (hBM : BM s₁.heap mg)
    (F : ∀ base : Heap, K.In base → base.Ns mainGlobals mg → BM base mg → FnOk P w K mg base CX0 k fa fd [x] sp) (hbind : ∀ (s : Shared) (u : Value), BindsTo s fd ⟨[u], []⟩ [(x, u)])
    (hsp : ∀ H : Hp, SqL K H a (ns.map V.int) → (∀ p ∈ ts, H p = some (.ext (TabA p #[]))) → sp [.ref a] H (fun v H' => v = .bl true ∧ ∀ p ∈ ts, ∃ ps, H' p = some (.ext (TabA p ps))) fun _ _ _ => False) :
    codeAny (model P w) callerA (.call (.ref fa) ⟨[.ref a], []⟩) (fun r s' => r = .ok (.ret (.bool true)) ∧ OldK s₁.heap s'.heap ∧ s'.os = s₁.os ∧ AllBare s'.gens) s₁ := by
  have rv := vals_ints hi
  have naT : a ∉ ts := fun z => by
    have := (hT a z).1
    rw [ha] at this; cases this
  -- what is tracked: the tables, and the script where it isn't the module's own
  have core : ∀ (Ha : Option HO) (H : Hp), (∀ b, H b = if b ∈ ts then some (.ext (TabA b #[])) else if b = a then Ha else none) → (Ha = none ∨ ∃ o xs, Ha = some (.frz o (.lst xs)) ∧ K.lookup a = none) → SqL K H a (ns.map V.int) → HOk P w H s₁.heap →
      codeAny (model P w) callerA (.call (.ref fa) ⟨[.ref a], []⟩) (fun r s' => r = .ok (.ret (.bool true)) ∧ OldK s₁.heap s'.heap ∧ s'.os = s₁.os ∧ AllBare s'.gens) s₁ := by
    intro Ha H hH hHa hS hok
    have tr : ∀ b, H b ≠ none → b ∈ ts ∨ (b = a ∧ K.lookup a = none) := fun b hb => by
      rw [hH b] at hb
      by_cases h1 : b ∈ ts
      · exact .inl h1
      · rw [if_neg h1] at hb
        by_cases h2 : b = a
        · rw [if_pos h2] at hb
          rcases hHa with z | ⟨o, xs, z, q⟩
          · exact absurd z hb
          · exact .inr ⟨h2, q⟩
        · rw [if_neg h2] at hb
          exact absurd rfl hb
    have free : ∀ {b : Addr} {o : Obj}, s₁.heap.get? b = some o → (∀ ps, o.data ≠ .fields ps) → (∀ xs n, o.data ≠ .seq xs n) → H b = none := fun {b o} e n1 n2 => by
      cases q : H b with
      | none => rfl
      | some u =>
        rcases tr b (by rw [q]; simp) with z | ⟨z, _⟩
        · have := (hT b z).1
          rw [e] at this; cases this
          exact absurd rfl (n1 _)
        · subst z
          rw [ha] at e; cases e
          exact absurd rfl (n2 _ _)
    have nsK : ∀ {b : Addr} {m : Str → Option Value}, s₁.heap.Ns b m → (hidT s₁.heap H).Ns b m := fun {b m} ⟨o, es, ep, e, d, r⟩ => ⟨o, es, ep, hidT_get e (free e (fun _ z => by rw [d] at z; cases z) fun _ _ z => by rw [d] at z; cases z), d, r⟩
    have hKb : K.In (hidT s₁.heap H) := fun b o e => hidT_get (KX b o e) (by
      cases q : H b with
      | none => rfl
      | some u =>
        rcases tr b (by rw [q]; simp) with z | ⟨z, z2⟩
        · rw [(hT b z).2.1] at e; cases e
        · rw [z, z2] at e; cases e)
    have hBb : BM (hidT s₁.heap H) mg := by
      obtain ⟨bm, ob, b1, b2, b3, b4, b5, b6⟩ := hBM
      exact ⟨bm, ob, b1, b2, hidT_get b3 (free b3 (fun _ z => by rw [b6] at z; cases z) fun _ _ z => by rw [b6] at z; cases z), b4, b5, b6⟩
    have hM : Mod K mg (hidT s₁.heap H) := ⟨hKb, nsK hns, ⟨mb, nsK hb, hbb⟩, let ⟨mc, h1, h2⟩ := hlim; ⟨mc, nsK h1, h2⟩⟩
    have e0 : Env0 P w K mg (hidT s₁.heap H) callerA [] s₁ H := ⟨rfl, hM, fun b o e => of_hidT e, Nat.le_of_eq (hidT_size _ _), trivial, fun b hb => absurd (show b ∈ ([] : List Addr) from hb) (by simp), hok, .of_eq hg⟩
    refine codeAny_mono ((F _ hKb (nsK hns) hBb).run callerA [] s₁ H ⟨[.ref a], []⟩ [.ref a] [.ref a] _ _ hr e0 (hbind s₁ (.ref a)) (.cons rfl .nil) (hsp H hS fun p hp => by rw [hH p, if_pos hp])) fun r s' h => ?_
    cases r with
    | error e => exact False.elim h
    | ok fl =>
      cases fl with
      | next => exact False.elim h
      | brk => exact False.elim h
      | cont => exact False.elim h
      | ret u =>
        obtain ⟨v, H', os, bare, un, hok', r', q, qT⟩ := h
        subst q
        obtain rfl : u = Value.bool true := r'
        have tab : ∀ p ∈ ts, ∃ ps, s'.heap.get? p = some (tabObj ps) := fun p hp => by
          obtain ⟨ps, e⟩ := qT p hp
          exact ⟨ps, (hok' p _ e).1⟩
        have old : ∀ b o, s₁.heap.get? b = some o → b ∉ ts → s'.heap.get? b = some o := fun b o e n => by
          cases q : H b with
          | none => exact un.keep b o e q (fun z => absurd (show b ∈ ([] : List Addr) from z) (by simp)) (by simp)
          | some u =>
            rw [hH b, if_neg n] at q
            by_cases h2 : b = a
            · rw [if_pos h2] at q
              rcases hHa with z | ⟨ob, xs, z, _⟩
              · rw [z] at q; cases q
              · have hb' : H b = some (.frz ob (.lst xs)) := by rw [hH b, if_neg n, if_pos h2, z]
                have z2 := un.frzs b ob _ hb'
                obtain ⟨e1, _⟩ := hok b _ hb'
                obtain ⟨e2, _⟩ := hok' b _ z2
                rw [e] at e1; cases e1
                exact e2
            · rw [if_neg h2] at q; cases q
        refine ⟨rfl, ⟨fun b o e => ?_, fun b o e => ?_⟩, os, bare⟩
        · by_cases hb : b ∈ ts
          · obtain ⟨ps, e2⟩ := tab b hb
            have e3 := (hT b hb).1
            rw [e] at e3; cases e3
            exact .inr (.inl ⟨(hT b hb).2.2, rfl, #[], ps, rfl, by rw [e2]; simp⟩)
          · exact .inl (old b o e hb)
        · by_cases hb : b ∈ ts
          · obtain ⟨ps, e2⟩ := tab b hb
            exact ⟨_, e2⟩
          · exact ⟨o, old b o e hb⟩
  have lenV := hi.length
  cases hk : K.lookup a with
  | some o =>
    have e := KX a o hk
    rw [ha] at e
    cases e
    refine core none (fun b => if b ∈ ts then some (.ext (TabA b #[])) else if b = a then none else none) (fun b => rfl) (.inl rfl) (.inr ⟨_, vs.toArray, _, hk, rfl, rfl, rfl, by rw [List.size_toArray, lenV]; exact hl, by simpa using rv⟩) fun b u z => ?_
    by_cases h1 : b ∈ ts
    · have z' := (if_pos h1).symm.trans z
      cases z'
      exact TabA.ok (hT b h1).1
    · have z' := (if_neg h1).symm.trans z
      split at z' <;> cases z'
  | none =>
    refine core (some (.frz { cls := .type "list", data := .seq vs.toArray } (.lst (ns.map V.int)))) (fun b => if b ∈ ts then some (.ext (TabA b #[])) else if b = a then some (.frz { cls := .type "list", data := .seq vs.toArray } (.lst (ns.map V.int))) else none) (fun b => rfl) (.inr ⟨_, _, rfl, hk⟩) (.inl (.inr ⟨{ cls := .type "list", data := .seq vs.toArray }, (if_neg naT).trans (if_pos rfl)⟩)) fun b u z => ?_
    by_cases h1 : b ∈ ts
    · have z' := (if_pos h1).symm.trans z
      cases z'
      exact TabA.ok (hT b h1).1
    · have z' := (if_neg h1).symm.trans z
      by_cases hb : b = a
      · have z2 := (if_pos hb).symm.trans z'
        cases z2
        subst hb
        exact ⟨ha, by rw [List.length_map]; exact hl, vs, _, rv, ha⟩
      · have z2 := (if_neg hb).symm.trans z'
        cases z2
theorem walk_ofT {l : PySem.W.OpenLaw} {n k : Nat} {q : Program} {loose : List Str} {XP : (Str → Option Value) → Heap → Prop} {YP : World → Heap → Prop} {d : DefRec} {K : Params → PySem.W.Frag} {sp : World → Sp} {x : Str} {ts : List Addr}
    (hn : l.most = some n) (hn2 : n ≤ sizeLine) (hdf : d.params.defaults = []) (hr : Room k callerA) (hY : ∀ (w : World) (h : Heap), YP w h → (K w.params).In h) (hTs : ∀ (w : World) (h : Heap), YP w h → ∀ p ∈ ts, h.get? p = some (tabObj #[]))
    (F : ∀ (w : World) (mg : Str → Option Value) (fa : Addr) (h : Heap), (K w.params).In h → h.Ns mainGlobals mg → mg d.name = some (.ref fa) →
      (∀ p ∈ ts, (K w.params).lookup p = none ∧ ∃ c, codeHdIn (K w.params) c p = true) ∧ ∃ fd : FuncData, (∀ (s : Shared) (u : Value), BindsTo s fd ⟨[u], []⟩ [(x, u)]) ∧ ∀ base : Heap, (K w.params).In base → base.Ns mainGlobals mg → BM base mg → FnOk l.prog w (K w.params) mg base CX0 k fa fd [x] (sp w))
    (hsp : ∀ (w : World) (H : Hp) (a : Addr) (ns : List Int), ns.length ≤ n → SqL (K w.params) H a (ns.map V.int) → (∀ p ∈ ts, H p = some (.ext (TabA p #[]))) → sp w [.ref a] H (fun v H' => v = .bl true ∧ ∀ p ∈ ts, ∃ ps, H' p = some (.ext (TabA p ps))) fun _ _ _ => False) :
    PySem.W.WalkO q loose XP YP l.row.toRowW d [] (fun f vs => PySem.call f vs) := by
  refine Att.attach_call hn hdf fun w s₀ s₁ mg mb fa o pm cd doc a vs ns G Y ho hd hcd hmg hobj hints hlen hg => ?_
  have KX := hY w _ Y
  obtain ⟨hKt, fd, hb, hF⟩ := F w mg fa _ KX G.T.g hmg
  refine law_callT (ts := ts) KX G.T.g G.T.b G.T.builtins G.T.nolimit hg hobj hints (Nat.le_trans hlen hn2) hr (fun p hp => ⟨hTs w _ Y p hp, (hKt p hp).1, ?_⟩) G.T.bmain hF hb fun H hS hT => hsp w H a ns hlen hS hT
  obtain ⟨c, hc⟩ := (hKt p hp).2
  obtain ⟨o, vs', file, tf, fl, tg, b, n', tt, e1, e2, e3, e4, _⟩ := codeHd_of_K KX hc
  exact ⟨c, o, vs', e1, e2, e3, e4⟩
end L2

set_option linter.all false
set_option maxRecDepth 100000
set_option maxHeartbeats 4000000
namespace L2
open PySem PySem.Spec PyProof.Rows PySem.W
section
variable {X : Cx}
/-- sorted(x, key=lambda y: ..) that catches one name -/
theorem pe_sortK1 {bk : Bool} {k : Nat} {P c cy : Addr} {arg body : Expr} {params : Arguments} {scope : Scope} {lp kp p pos : Pos} {x y q : Str} {ta : TA} {te : TE} {src : SRC} (j : Nat)
    (hr : Room (k + 3) X.A) (hg : Gl X "sorted") (hm : X.mg "sorted" = none) (ha : PA X [arg] ta) (hs : SrcOk X src) (hq : X.env.qual ++ "<lambda>" = q)
    (hcl : closureFor scope X.env = pure [(y, cy)]) (hcode : X.env.code = .ref c) (hC : codeHdIn X.K c P = true) (hB : BM X.base X.mg) (hdef : defaultsOf params X.env = ([], []))
    (hbind : ∀ (c' : Addr) (ctv u : Value), bindArgs (kla_fn "<lambda>" q params body scope [(y, cy)] ((X.mg "__name__").getD .none) (.ref c') ctv) ⟨[u], []⟩ = pure [(x, u)]) (hx : scope.names.lookup x = some .local) (hco : scope.isCoroutine = false) (hgen : scope.isGenerator = false) (hk : scope.kind = .function)
    (hcell : ∀ y ∈ scope.names, y.2 ≠ .cell) (hcy : X.env.cells.lookup y = some cy) (hNj : X.N[j]? = some y) (hky : X.env.kindOf y = some .cell) (hfy : scope.names.lookup y = some .free)
    (hall : (scope.names.all fun p => (p.2 != .cell && p.2 != .free) || p.1 == y) = true)
    (he : ∀ f c' s0 H0, PE (lamX X [x, y] q scope f c' [(y, cy)] X.A.in1.in1 s0 H0) body te)
    (hst : backTo pos (starEach [arg] X.env) = (false, eval arg X.env) :: backTo pos (starEach [] X.env)) (hpl : (backTo pos (starEach [arg] X.env)).any (·.1) = false) :
    PE X (.Call (.Name "sorted" p) [arg] [⟨some "key", .Lambda params body scope lp, kp⟩] pos) (tSortK bk P q lp ta src (fun σ => [(σ[j]?).join]) te) := by
  refine pe_sortK (N' := [x, y]) (clos := [(y, cy)]) hr hg hm ha hs hq hcl hcode hC hB hdef hbind hx hco hgen hk hcell rfl (fun y' c' h => ?_) (fun y' h => ?_) (fun _ _ => rfl) (fun σ i y' v e1 e2 => ?_) he hst hpl
  · obtain ⟨rfl, rfl⟩ := lookup_one h
    exact hcy
  · rw [List.all_eq_true] at hall
    have key : ∀ k, (k = .cell ∨ k = .free) → scope.names.lookup y' = some k → y' = y := fun k hk e => by
      have := hall _ (lookup_mem e)
      rcases hk with rfl | rfl
      · simpa using this
      · simpa using this
    have e : y' = y := by
      rcases h with h | h
      · exact key _ (.inl rfl) h
      · exact key _ (.inr rfl) h
    subst e
    exact ⟨cy, by rw [List.lookup_cons, beq_self_eq_true]⟩
  · match i, e1, e2 with
    | 0, e1, e2 =>
      have e1' : y = y' := by simpa using e1
      subst e1'
      have e2' : (σ[j]?).join = some v := by simpa using e2
      refine ⟨j, hNj, ?_, hky, hfy⟩
      cases h : σ[j]? with
      | none => rw [h] at e2'; cases e2'
      | some o => rw [h] at e2'; have : o = some v := e2'; rw [this]
    | i + 1, e1, _ => simp at e1
end
/-! ### what they give -/
theorem gv_sortD {P d : Addr} {q : Str} {lp : Pos} {ta : TA} {fr : St → St} {te : TE} {σ : St} {H : Hp} {kvs : List (List Key × V)} {R : VK} (ha : PuA ta σ H [.ref d]) (hT : TabOk H P q lp) (hd : H d = some (.dT kvs))
    (h : ∀ H2 ys, SameB P H H2 → TabOk H2 P q lp → H2 d = some (.dT kvs) → KeysD H2 kvs ys → (kvs.map (·.1)).Nodup → ys.length < 64 ∧ ∃ kf : V → List Int, (∀ y ∈ ys, kf y ≠ [] ∧ ∀ H3, Same H2 H3 → te (some y :: fr σ) H3 fun k H4 => Same H3 H4 ∧ TupT H4 k (kf y)) ∧
      ∀ H3 D zs, Same H2 H3 → H3 D = none → SortBy .non ys (ys.map kf) zs → R (.ref D) (upd H3 D (.lst zs))) : Gv (tSortK false P q lp ta srcD fr te) σ H R := fun Q f => ha _ ⟨_, rfl, hT, fun H2 s t => by
  have hne : d ≠ P := fun z => by
    obtain ⟨ps, e, _⟩ := hT
    rw [← z, hd] at e; cases e
  have hd2 := s d _ hd hne
  refine ⟨d, kvs, rfl, hd2, fun ys k n => ?_⟩
  obtain ⟨h1, kf, h2, h3⟩ := h H2 ys s t hd2 k n
  exact ⟨h1, kf, h2, fun H3 D zs s3 hD hz => f _ _ (h3 H3 D zs s3 hD hz)⟩⟩
/-- sorted(l), l a list of tuples of ints -/
theorem gv_sortT {K : PySem.W.Frag} {t : TA} {σ : St} {H : Hp} {l : Addr} {ys : List V} {nss : List (List Int)} (ha : PuA t σ H [.ref l]) (hl : H l = some (.lst ys)) (hz : ys.length < 64) (ht : TupsT H ys nss) (hne : ∀ ns ∈ nss, ns ≠ []) :
    Gv (tCB (rSortT (srcL K)) t) σ H fun v H' => ∃ D zs, H D = none ∧ v = .ref D ∧ H' = upd H D (.lst zs) ∧ SortBy .non ys nss zs := fun Q f =>
  ha _ ⟨_, rfl, l, ys, rfl, .of hl, hz, nss, ht, hne, fun D zs hD hs => f _ _ ⟨D, zs, hD, rfl, rfl, hs⟩⟩
theorem gv_listD {t : TA} {σ : St} {H : Hp} {d : Addr} {kvs : List (List Key × V)} (ha : PuA t σ H [.ref d]) (hd : H d = some (.dT kvs)) :
    Gv (tCB rListD t) σ H fun v H' => ∃ D ys, H D = none ∧ v = .ref D ∧ H' = upd H D (.lst ys) ∧ KeysD H kvs ys ∧ (kvs.map (·.1)).Nodup := fun Q f =>
  ha _ ⟨d, kvs, rfl, hd, fun ys D k n hD => f _ _ ⟨D, ys, hD, rfl, rfl, k, n⟩⟩
/-! ### keys that are ints -/
theorem kints (k : List Int) : (k.map Sum.inl : List Key).map kV = k.map V.int := by
  rw [List.map_map]; rfl
/-- a dict whose keys are tuples of ints, as it is filled -/
def dInt (kvs : List (List Int × V)) : List (List Key × V) := kvs.map fun p => (p.1.map Sum.inl, p.2)
theorem inlI {a b : List Int} (h : (a.map Sum.inl : List Key) = b.map Sum.inl) : a = b := by
  induction a generalizing b with
  | nil => cases b with
    | nil => rfl
    | cons _ _ => cases h
  | cons x a ih => cases b with
    | nil => cases h
    | cons y b =>
      simp only [List.map_cons, List.cons.injEq, Sum.inl.injEq] at h
      rw [h.1, ih h.2]
/-- put among pairs -/
def putI (kvs : List (List Int × V)) (k : List Int) (v : V) : List (List Int × V) := if kvs.any (fun p => decide (p.1 = k)) then kvs.map (fun p => if p.1 = k then (p.1, v) else p) else kvs ++ [(k, v)]
theorem dInt_put (kvs : List (List Int × V)) (k : List Int) (v : V) : putK (dInt kvs) (k.map Sum.inl) v = dInt (putI kvs k v) := by
  unfold putK putI dInt
  have e : ((kvs.map fun p => ((p.1.map Sum.inl : List Key), p.2)).any fun kv => decide (kv.1 = k.map Sum.inl)) = kvs.any fun p => decide (p.1 = k) := by
    rw [List.any_map]
    congr 1
    funext p
    show decide ((p.1.map Sum.inl : List Key) = k.map Sum.inl) = decide (p.1 = k)
    by_cases h : p.1 = k
    · simp [h]
    · rw [decide_eq_false h, decide_eq_false fun z => h (inlI z)]
  rw [e]
  by_cases h : (kvs.any fun p => decide (p.1 = k)) = true
  · rw [if_pos h, if_pos h, List.map_map, List.map_map]
    refine List.map_congr_left fun p _ => ?_
    show (if (p.1.map Sum.inl : List Key) = k.map Sum.inl then ((p.1.map Sum.inl : List Key), v) else _) = _
    by_cases h2 : p.1 = k
    · simp [h2]
    · rw [if_neg fun z => h2 (inlI z)]
      simp [h2]
  · rw [if_neg h, if_neg h]
    simp
theorem putI_keys (kvs : List (List Int × V)) (k : List Int) (v : V) : (putI kvs k v).map (·.1) = if k ∈ kvs.map (·.1) then kvs.map (·.1) else kvs.map (·.1) ++ [k] := by
  unfold putI
  have e : ((kvs.any fun p => decide (p.1 = k)) = true) ↔ k ∈ kvs.map (·.1) := by
    rw [List.any_eq_true, List.mem_map]
    constructor
    · rintro ⟨p, h1, h2⟩
      exact ⟨p, h1, of_decide_eq_true h2⟩
    · rintro ⟨p, h1, h2⟩
      exact ⟨p, h1, decide_eq_true h2⟩
  by_cases h : k ∈ kvs.map (·.1)
  · rw [if_pos h, if_pos (e.mpr h), List.map_map]
    refine List.map_congr_left fun p _ => ?_
    show (if p.1 = k then (p.1, v) else p).1 = p.1
    split <;> rfl
  · rw [if_neg h, if_neg fun z => h (e.mp z)]
    simp
theorem putI_all {kvs : List (List Int × V)} {k : List Int} {v : V} {F : List Int → V → Prop} (h : ∀ p ∈ kvs, F p.1 p.2) (hv : F k v) : ∀ p ∈ putI kvs k v, F p.1 p.2 := by
  unfold putI
  split
  · intro p hp
    obtain ⟨q, hq, rfl⟩ := List.mem_map.mp hp
    by_cases h2 : q.1 = k
    · rw [if_pos h2]; show F q.1 v; rw [h2]; exact hv
    · rw [if_neg h2]; exact h q hq
  · intro p hp
    rcases List.mem_append.mp hp with hp | hp
    · exact h p hp
    · have : p = (k, v) := by simpa using hp
      subst this
      exact hv
theorem dInt_find {kvs : List (List Int × V)} {k : List Int} (h : k ∈ kvs.map (·.1)) : ∃ v, (k, v) ∈ kvs ∧ valV (dInt kvs) (k.map Sum.inl) = some v := by
  induction kvs with
  | nil => simp at h
  | cons p r ih =>
    by_cases e : p.1 = k
    · exact ⟨p.2, by rw [← e]; exact List.mem_cons_self .., valV_pos (p := (p.1.map Sum.inl, p.2)) (by rw [e])⟩
    · have h' : k ∈ r.map (·.1) := by
        rw [List.map_cons] at h
        rcases List.mem_cons.mp h with z | z
        · exact absurd z.symm e
        · exact z
      obtain ⟨v, h1, h2⟩ := ih h'
      exact ⟨v, List.mem_cons_of_mem _ h1, (valV_neg (p := (p.1.map Sum.inl, p.2)) (fun z => e (inlI z))).trans h2⟩
/-- the keys as they lie: tuples of ints -/
theorem keysD_ints {H : Hp} : ∀ {kvs : List (List Int × V)} {ys : List V}, KeysD H (dInt kvs) ys → TupsT H ys (kvs.map (·.1))
  | [], _, .nil => .nil
  | p :: r, _, .cons ⟨a, e, ha⟩ t => .cons ⟨a, e, by rw [← kints]; exact ha⟩ (keysD_ints t)
theorem nodup_ints {kvs : List (List Int × V)} (h : ((dInt kvs).map (·.1)).Nodup) : (kvs.map (·.1)).Nodup := by
  have e : (dInt kvs).map (·.1) = (kvs.map (·.1)).map (fun k => (k.map Sum.inl : List Key)) := by
    unfold dInt
    rw [List.map_map, List.map_map]
    rfl
  rw [e] at h
  rw [List.nodup_iff_pairwise_ne, List.pairwise_map] at h
  exact List.nodup_iff_pairwise_ne.mpr (h.imp fun z e => z (by rw [e]))
end L2

set_option linter.all false
set_option maxHeartbeats 4000000
namespace L2
/-! ### the cells that a side meets, by its ends -/
def fX (p q : Pt3) (s1 : Int) : Int := 2 * s1 * q.x * p.z - 2 * s1 * p.x * q.z
def fY (p q : Pt3) (s1 : Int) : Int := 2 * s1 * q.y * p.z - 2 * s1 * p.y * q.z
def hC (p q : Pt3) (s0 : Int) : Int := 2 * s0 * (p.z * q.z)
def lC (p q : Pt3) (s1 : Int) : Int := mx1 (fX p q s1) * mx1 (fY p q s1)
/-- where it is first met; that it is met -/
def fstC (p q : Pt3) (s0 s1 : Int) (c : Int × Int) : Int × Int := fst2 (fX p q s1) (fY p q s1) (cX c.1 s0 s1 p.x p.z q.z) (cX c.2 s0 s1 p.y p.z q.z) (hC p q s0) (lC p q s1)
def metC (p q : Pt3) (s0 s1 : Int) (c : Int × Int) : Prop := Met (fX p q s1) (fY p q s1) (cX c.1 s0 s1 p.x p.z q.z) (cX c.2 s0 s1 p.y p.z q.z) (hC p q s0) (lC p q s1)
section
variable {p q : Pt3} {s0 s1 : Int} {c c' : Int × Int}
theorem metC_iff (hp : 0 < p.z) (hq : 0 < q.z) (h0 : 0 < s0) (h1 : 0 < s1) (ap : Apart p q) : metC p q s0 s1 c ↔ MeetP p q c.1 c.2 s0 s1 := by
  have ea : fX p q s1 = cX c.1 s0 s1 q.x q.z p.z - cX c.1 s0 s1 p.x p.z q.z := by unfold fX cX; grind
  have eb : fY p q s1 = cX c.2 s0 s1 q.y q.z p.z - cX c.2 s0 s1 p.y p.z q.z := by unfold fY cX; grind
  exact prog_meet hp hq h0 h1 ap ea eb rfl
theorem cX_step (i i' s0 s1 px pz qz : Int) : cX i' s0 s1 px pz qz = cX i s0 s1 px pz qz - 2 * s0 * (pz * qz) * (i' - i) := by unfold cX; grind
theorem lC_pos (p q : Pt3) (s1 : Int) : 0 ≤ lC p q s1 := Int.le_of_lt (Int.mul_pos (mx1_gt _) (mx1_gt _))
theorem row_cells (hp : 0 < p.z) (hq : 0 < q.z) (h0 : 0 < s0) (m : metC p q s0 s1 c) (m' : metC p q s0 s1 c') (h : le2 (fstC p q s0 s1 c) (fstC p q s0 s1 c')) : rowLe (fX p q s1) (fY p q s1) c c' := by
  have hh : 0 < hC p q s0 := Int.mul_pos (by omega) (Int.mul_pos hp hq)
  unfold metC fstC at *
  rw [cX_step c.1 c'.1, cX_step c.2 c'.2] at m' h
  obtain ⟨⟨a1, a2, a3⟩, b1, b2, b3⟩ := row_step hh (lC_pos p q s1) m m' h
  exact ⟨⟨fun z => by have := a1 z; omega, fun z => by have := a2 z; omega, fun z => by have := a3 z; omega⟩, fun z => by have := b1 z; omega, fun z => by have := b2 z; omega, fun z => by have := b3 z; omega⟩
theorem fX_turn : fX q p s1 = -fX p q s1 := by unfold fX; omega
theorem fY_turn : fY q p s1 = -fY p q s1 := by unfold fY; omega
/-- one axis: a met cell lies between the cells of the ends -/
theorem between_ax {f u h g L : Int} (hg : 0 < g) (hL : L = mx1 f * g) (h1 : le2 (0, 0) (spn f u h (L.fdiv (f.natAbs : Int)) L).2) (h2 : le2 (spn f u h (L.fdiv (f.natAbs : Int)) L).1 (L, 0)) : (u < h ∧ 0 ≤ u + f) ∨ (0 ≤ u ∧ u + f < h) := by
  rcases Int.lt_trichotomy f 0 with hf | hf | hf
  · have e : L.fdiv (f.natAbs : Int) = g := by
      have e1 : (f.natAbs : Int) = -f := by omega
      rw [e1, hL, mx1_neg hf, Int.fdiv_eq_ediv_of_nonneg _ (by omega)]
      exact Int.mul_ediv_cancel_left _ (by omega)
    rw [e] at h1 h2
    exact .inr (between_down hf hg (by rw [hL, mx1_neg hf, Int.mul_comm]) h1 h2)
  · subst hf
    have := ax_zero h1
    exact .inr (by omega)
  · have e : L.fdiv (f.natAbs : Int) = g := by
      have e1 : (f.natAbs : Int) = f := by omega
      rw [e1, hL, mx1_pos hf, Int.fdiv_eq_ediv_of_nonneg _ (by omega)]
      exact Int.mul_ediv_cancel_left _ (by omega)
    rw [e] at h1 h2
    exact .inl (between_up hf hg (by rw [hL, mx1_pos hf, Int.mul_comm]) h1 h2)
theorem between_cells (m : metC p q s0 s1 c) : ((cX c.1 s0 s1 p.x p.z q.z < hC p q s0 ∧ 0 ≤ cX c.1 s0 s1 q.x q.z p.z) ∨ (0 ≤ cX c.1 s0 s1 p.x p.z q.z ∧ cX c.1 s0 s1 q.x q.z p.z < hC p q s0)) ∧
    ((cX c.2 s0 s1 p.y p.z q.z < hC p q s0 ∧ 0 ≤ cX c.2 s0 s1 q.y q.z p.z) ∨ (0 ≤ cX c.2 s0 s1 p.y p.z q.z ∧ cX c.2 s0 s1 q.y q.z p.z < hC p q s0)) := by
  have ea : cX c.1 s0 s1 p.x p.z q.z + fX p q s1 = cX c.1 s0 s1 q.x q.z p.z := by unfold fX cX; grind
  have eb : cX c.2 s0 s1 p.y p.z q.z + fY p q s1 = cX c.2 s0 s1 q.y q.z p.z := by unfold fY cX; grind
  rw [← ea, ← eb]
  exact ⟨between_ax (mx1_gt (fY p q s1)) rfl (le2_trans fst2_ge (le2_trans m lst2_le0)) (le2_trans fst2_ge0 (le2_trans m lst2_le)),
    between_ax (mx1_gt (fX p q s1)) (Int.mul_comm _ _) (le2_trans fst2_ge (le2_trans m lst2_le1)) (le2_trans fst2_ge1 (le2_trans m lst2_le))⟩
end
end L2

set_option linter.all false
set_option maxRecDepth 100000
set_option maxHeartbeats 4000000
namespace L2
open PySem PySem.Spec PyProof.Rows
section
variable {σ : St} {H : Hp} {td ty tv te : TE} {d : Addr} {K : PySem.W.Frag} {D : Ends} {rest : TS}
theorem st_listG {g : TG} {tb : TS} {R : V → Hp → Prop} (he : Gv te σ H R) (hr : ∀ v H1, R v H1 → ∃ (a : Addr) (xs : List V), v = .ref a ∧ ∃ Pv : Nat → St → Hp → Prop, Pv 0 σ H1 ∧ (∀ i σ H, i ≤ xs.length → Pv i σ H → SqL K H a xs) ∧
    (∀ (i : Nat) x σ H, xs[i]? = some x → Pv i σ H → g x σ H fun σ2 H2 => tb { D with nx := Pv (i + 1), ct := Pv (i + 1), bk := rest D } σ2 H2) ∧ (∀ σ H, Pv xs.length σ H → rest D σ H)) : tSeq (tFor (iList K te) g tb) rest D σ H :=
  he _ fun v H1 r => by
    obtain ⟨a, xs, rfl, Pv, h0, hl, hs, hd⟩ := hr v H1 r
    exact ⟨a, rfl, ⟨xs, hl 0 σ H1 (Nat.zero_le _) h0⟩, for_list (D := { D with nx := rest D }) Pv h0 hl hs hd⟩
theorem gv_newT : Gv tDNewT σ H (fun v H' => ∃ p, H p = none ∧ v = .ref p ∧ H' = upd H p (.dT (dInt []))) := fun Q q p hp => q _ _ ⟨p, hp, rfl, rfl⟩
theorem st_putT1 {v y : V} {ks : List Int} {kvs : List (List Int × V)} (hv : Pu tv σ H v) (hd : Pu td σ H (.ref d)) (hy : Pu ty σ H y) (hk : TupT H y ks) (hH : H d = some (.dT (dInt kvs))) (hz : kvs.length ≤ 1000) (k : D.nx σ (upd H d (.dT (dInt (putI kvs ks v))))) : sDPut td ty tv D σ H :=
  hv _ (hd _ (hy _ (by
    obtain ⟨b, rfl, hb⟩ := hk
    refine ⟨d, _, rfl, DPut.t hH (k := ks.map Sum.inl) (by rw [kints]; exact hb) ?_, ?_⟩
    · show (dInt kvs).length < _
      unfold dInt
      rw [List.length_map]
      exact small1000 hz
    · rw [dInt_put]
      exact k)))
/-- d[k] -/
theorem pu_getT {y : V} {ks : List Int} {v : V} {kvs : List (List Int × V)} (hd : Pu td σ H (.ref d)) (hy : Pu ty σ H y) (hk : TupT H y ks) (hH : H d = some (.dT (dInt kvs))) (hv : valV (dInt kvs) (ks.map Sum.inl) = some v) : Pu (tDGet td ty) σ H v := fun Q q =>
  hd _ (hy _ (by
    obtain ⟨b, rfl, hb⟩ := hk
    refine ⟨d, v, rfl, ?_, q⟩
    rw [← hv]
    exact DGet.t hH (by rw [kints]; exact hb)))
/-- x is not None -/
theorem pu_isnotR {ta tb : TE} {a : Addr} (h : Pu ta σ H (.ref a)) (hb : Pu tb σ H .non) : Pu (tOp (fun x y H Q => y = .non ∧ ((x = .non ∧ Q (.bl false) H) ∨ ∃ a, x = .ref a ∧ Q (.bl true) H)) ta tb) σ H (.bl true) := fun Q q => h _ (hb _ ⟨rfl, .inr ⟨a, rfl, q⟩⟩)
theorem pu_isnotN {ta tb : TE} (h : Pu ta σ H .non) (hb : Pu tb σ H .non) : Pu (tOp (fun x y H Q => y = .non ∧ ((x = .non ∧ Q (.bl false) H) ∨ ∃ a, x = .ref a ∧ Q (.bl true) H)) ta tb) σ H (.bl false) := fun Q q => h _ (hb _ ⟨rfl, .inl ⟨rfl, q⟩⟩)
end
/-! ### rows in order -/
theorem mem_zip_map {α β : Type} {f : α → β} : ∀ {ys : List α} {w : α × β}, w ∈ ys.zip (ys.map f) → w.2 = f w.1 ∧ w.1 ∈ ys
  | [], w, h => by simp at h
  | y :: ys, w, h => by
    rw [List.map_cons, List.zip_cons_cons] at h
    rcases List.mem_cons.mp h with rfl | h
    · exact ⟨rfl, List.mem_cons_self ..⟩
    · exact ⟨(mem_zip_map h).1, List.mem_cons_of_mem _ (mem_zip_map h).2⟩
theorem sort_rows {ys zs : List V} {kf : V → List Int} (h : SortBy V.non ys (ys.map kf) zs) : zs.Perm ys ∧ zs.Pairwise fun a b => HT.lexLt (kf b) (kf a) = false := by
  obtain ⟨ws, hp, rfl, hw⟩ := h.zip (by simp)
  have hm : ∀ w ∈ ws, w.2 = kf w.1 := fun w hw => (mem_zip_map (hp.mem_iff.mp hw)).1
  refine ⟨?_, ?_⟩
  · have := hp.map (·.1)
    rw [show (ys.zip (ys.map kf)).map (·.1) = ys from List.map_fst_zip (by simp)] at this
    exact this
  · rw [List.pairwise_map]
    refine hw.imp_of_mem fun {a b} ha hb z => ?_
    rw [← hm a ha, ← hm b hb]
    exact z
theorem tups_map {H : Hp} : ∀ {ws : List (V × List Int)}, (∀ w ∈ ws, TupT H w.1 w.2) → TupsT H (ws.map (·.1)) (ws.map (·.2))
  | [], _ => .nil
  | w :: ws, h => .cons (h w (List.mem_cons_self ..)) (tups_map fun x hx => h x (List.mem_cons_of_mem _ hx))
theorem tups_zip {H : Hp} : ∀ {ys : List V} {nss : List (List Int)}, TupsT H ys nss → ∀ w ∈ ys.zip nss, TupT H w.1 w.2
  | _, _, .nil, w, h => by simp at h
  | _, _, .cons p t, w, h => by
    rw [List.zip_cons_cons] at h
    rcases List.mem_cons.mp h with rfl | h
    · exact p
    · exact tups_zip t w h
theorem sort_tups {H : Hp} {ys zs : List V} {nss : List (List Int)} (h : SortBy V.non ys nss zs) (ht : TupsT H ys nss) : ∃ mss, mss.Perm nss ∧ TupsT H zs mss ∧ mss.Pairwise fun a b => HT.lexLt b a = false := by
  have hl : nss.length = ys.length := (Paired.length ht).symm
  obtain ⟨ws, hp, rfl, hw⟩ := h.zip hl
  refine ⟨ws.map (·.2), ?_, tups_map fun w hw => tups_zip ht w (hp.mem_iff.mp hw), by rw [List.pairwise_map]; exact hw⟩
  have := hp.map (·.2)
  rw [show (ys.zip nss).map (·.2) = nss from List.map_snd_zip (by omega)] at this
  exact this
theorem lex_one {a b : List (List Int)} (hp : a.Perm b) (ha : a.Pairwise fun x y => HT.lexLt y x = false) (hb : b.Pairwise fun x y => HT.lexLt y x = false) : a = b :=
  row_one (fun x y h1 h2 => (lex_anti h1 h2).symm) hp ha hb
theorem lex2 {a b : Int × Int} : HT.lexLt [b.1, b.2] [a.1, a.2] = false ↔ le2 a b := by
  rw [HT.lexLt_cons]
  unfold le2
  by_cases h : b.1 = a.1
  · rw [if_pos h, HT.lexLt_cons]
    by_cases h2 : b.2 = a.2
    · rw [if_pos h2, HT.lexLt_nil_nil]
      simp only [true_iff]
      omega
    · rw [if_neg h2, decide_eq_false_iff_not]
      omega
  · rw [if_neg h, decide_eq_false_iff_not]
    omega
/-! ### cells in lists -/
def two (c : Int × Int) : List Int := [c.1, c.2]
theorem two_inj {c c' : Int × Int} (h : two c = two c') : c = c' := by
  unfold two at h
  simp only [List.cons.injEq, and_true] at h
  exact Prod.ext h.1 h.2
def CellsT (H : Hp) (vs : List V) (cs : List (Int × Int)) : Prop := TupsT H vs (cs.map two)
theorem CellsT.len {H : Hp} {vs : List V} {cs : List (Int × Int)} (h : CellsT H vs cs) : vs.length = cs.length := by
  have := Paired.length h
  simpa using this
theorem CellsT.get {H : Hp} : ∀ {vs : List V} {cs : List (Int × Int)} {i : Nat} {v : V}, CellsT H vs cs → vs[i]? = some v → ∃ c, cs[i]? = some c ∧ TupT H v [c.1, c.2]
  | [], _, i, v, _, e => by simp at e
  | _ :: _, [], _, _, h, _ => by cases h
  | x :: vs, c :: cs, 0, v, .cons p _, e => ⟨c, rfl, by simp at e; subst e; exact p⟩
  | x :: vs, c :: cs, i + 1, v, .cons _ t, e => by
    obtain ⟨c', h1, h2⟩ := CellsT.get (i := i) (v := v) (cs := cs) t (by simpa using e)
    exact ⟨c', by simpa using h1, h2⟩
theorem CellsT.mono {H H' : Hp} {vs : List V} {cs : List (Int × Int)} (h : CellsT H vs cs) (f : ∀ v ns, TupT H v ns → TupT H' v ns) : CellsT H' vs cs := Paired.mapP h f
theorem row_ok {f0 f1 : Int} {c c' : Int × Int} (h : rowLe f0 f1 c c') (n : c ≠ c') : c ≠ c' ∧ (c'.1 - c.1 ≠ 0 → 0 < (c'.1 - c.1) * f0) ∧ (c'.2 - c.2 ≠ 0 → 0 < (c'.2 - c.2) * f1) := by
  obtain ⟨⟨a1, a2, a3⟩, b1, b2, b3⟩ := h
  refine ⟨n, fun z => ?_, fun z => ?_⟩
  · rcases Int.lt_trichotomy f0 0 with h | h | h
    · exact Int.mul_pos_of_neg_of_neg (by have := a2 h; omega) h
    · have := a3 h; omega
    · exact Int.mul_pos (by have := a1 h; omega) h
  · rcases Int.lt_trichotomy f1 0 with h | h | h
    · exact Int.mul_pos_of_neg_of_neg (by have := b2 h; omega) h
    · have := b3 h; omega
    · exact Int.mul_pos (by have := b1 h; omega) h
end L2
namespace L2
theorem tups_at {H : Hp} : ∀ {ys : List V} {nss : List (List Int)} {y : V}, TupsT H ys nss → y ∈ ys → ∃ ns ∈ nss, TupT H y ns
  | _, _, y, .nil, h => by simp at h
  | _, _, y, .cons p t, h => by
    rcases List.mem_cons.mp h with rfl | h
    · exact ⟨_, List.mem_cons_self .., p⟩
    · obtain ⟨ns, h1, h2⟩ := tups_at t h
      exact ⟨ns, List.mem_cons_of_mem _ h1, h2⟩
end L2

set_option linter.all false
set_option maxRecDepth 100000
set_option maxHeartbeats 4000000
namespace L2
open PySem PySem.Spec PyProof.Rows
section
variable {σ : St} {H : Hp} {ta tb te : TE} {K : PySem.W.Frag} {D : Ends} {rest : TS}
/-- if and else, both going on -/
theorem st_ifM {tc : TT} {t u : TS} {R : Bool → Hp → Prop} (M : St → Hp → Prop) (h : GvT tc σ H R) (q1 : ∀ H' (D' : Ends), R true H' → (∀ σ2 H2, M σ2 H2 → D'.nx σ2 H2) → t D' σ H') (q2 : ∀ H' (D' : Ends), R false H' → (∀ σ2 H2, M σ2 H2 → D'.nx σ2 H2) → u D' σ H')
    (k : ∀ σ2 H2, M σ2 H2 → rest D σ2 H2) : tSeq (tIfS tc t u) rest D σ H := st_ifG h (fun H' r => q1 H' _ r k) fun H' r => q2 H' _ r k
theorem gv_clamp {R : V → Hp → Prop} (h : Gv te σ H R) (f : ∀ v H', R v H' → ∃ e : Int, v = .int e) :
    Gv (tCB (fun xs H Q => ∃ i j, xs = [.int i, .int j] ∧ Q (.int (if j < i then j else i)) H) (tCons (tC (.int 4)) (tCons (tCB (fun xs H Q => ∃ i j, xs = [.int i, .int j] ∧ Q (.int (if j > i then j else i)) H) (tCons (tUn (rU fun i => .int (-i)) (tC (.int 4))) (tCons te tNil))) tNil))) σ H
      (fun v H' => ∃ e n : Int, v = .int n ∧ -4 ≤ n ∧ n ≤ 4 ∧ R (.int e) H') := fun Q q =>
  ⟨4, rfl, h _ fun v H' r => by
    obtain ⟨e, rfl⟩ := f v H' r
    refine ⟨-4, e, rfl, 4, _, rfl, q _ _ ⟨e, _, rfl, ?_, ?_, r⟩⟩ <;> split <;> split <;> omega⟩
/-- lists of tuples of ints that are laid as they are compared -/
theorem gv_cmpL {neg : Bool} {RA : V → Hp → Prop} {RB : V → Hp → V → Hp → Prop} {R : V → Hp → Prop} (ha : Gv ta σ H RA) (hb : ∀ v H1, RA v H1 → Gv tb σ H1 (RB v H1))
    (f : ∀ v H1 y H2, RA v H1 → RB v H1 y H2 → ∃ a b vs ws ns ms, v = .ref a ∧ y = .ref b ∧ H2 a = some (.lst vs) ∧ H2 b = some (.lst ws) ∧ TupsT H2 vs ns ∧ TupsT H2 ws ms ∧ R (.bl (if neg then !decide (ns = ms) else decide (ns = ms))) H2) : Gv (tOp (rEqLTI K neg) ta tb) σ H R := fun Q q =>
  ha _ fun v H1 r1 => hb v H1 r1 _ fun y H2 r2 => by
    obtain ⟨a, b, vs, ws, ns, ms, e1, e2, h1, h2, t1, t2, r⟩ := f v H1 y H2 r1 r2
    exact ⟨a, b, vs, ws, ns, ms, e1, e2, .of h1, .of h2, t1.i, t2.i, q _ _ r⟩
theorem gt_of {R : V → Hp → Prop} {R' : Bool → Hp → Prop} (h : Gv te σ H R) (f : ∀ v H', R v H' → ∃ c, v = .bl c ∧ R' c H') : GvT (tTest te) σ H R' := fun Q q => h _ fun v H' r => by
  obtain ⟨c, rfl, r'⟩ := f v H' r
  exact ⟨c, rfl, q _ _ r'⟩
/-- x in l -/
theorem pu_inT {x : V} {l : Addr} {ys : List V} {nss : List (List Int)} {ns : List Int} (hx : Pu ta σ H x) (hl : Pu tb σ H (.ref l)) (h : H l = some (.lst ys)) (ht : TupsT H ys nss) (tx : TupT H x ns) : Pu (tOp (rInT K) ta tb) σ H (.bl (decide (ns ∈ nss))) := fun Q q =>
  hx _ (hl _ ⟨l, ys, nss, ns, rfl, .of h, ht.i, tx.i, q⟩)
/-- list(l) -/
theorem gv_copy {t : TA} {l : Addr} {ys : List V} (ha : PuA t σ H [.ref l]) (hl : H l = some (.lst ys)) :
    Gv (tCB (fun xs H Q => ∃ p ys, xs = [.ref p] ∧ (SqL K H p ys ∨ SqT K H p ys) ∧ ∀ l, H l = none → Q (.ref l) (upd H l (.lst ys))) t) σ H fun v H' => ∃ p, H p = none ∧ v = .ref p ∧ H' = upd H p (.lst ys) := fun Q q =>
  ha _ ⟨l, ys, rfl, .inl (.of hl), fun p hp => q _ _ ⟨p, hp, rfl, rfl⟩⟩
end
theorem CellsT.same {H H' : Hp} {vs : List V} {cs : List (Int × Int)} (h : CellsT H vs cs) (s : Same H H') : CellsT H' vs cs := h.mono fun _ _ x => x.same s
theorem CellsT.snoc {H : Hp} {vs : List V} {cs : List (Int × Int)} {v : V} {c : Int × Int} (h : CellsT H vs cs) (t : TupT H v [c.1, c.2]) : CellsT H (vs ++ [v]) (cs ++ [c]) := by
  unfold CellsT
  rw [List.map_append]
  exact Paired.snoc h t
theorem two_mem {c : Int × Int} {cs : List (Int × Int)} : two c ∈ cs.map two ↔ c ∈ cs := by
  constructor
  · intro h
    obtain ⟨c', h1, h2⟩ := List.mem_map.mp h
    rw [← two_inj h2]
    exact h1
  · exact fun h => List.mem_map_of_mem h
theorem perm_of_mem {α : Type} [DecidableEq α] : ∀ {a b : List α}, a.Nodup → b.Nodup → (∀ x, x ∈ a ↔ x ∈ b) → a.Perm b
  | [], b, _, _, h => by
    cases b with
    | nil => exact .nil
    | cons y b => exact absurd ((h y).mpr (List.mem_cons_self ..)) (by simp)
  | x :: a, b, ha, hb, h => by
    obtain ⟨h1, h2⟩ := List.nodup_cons.mp ha
    have hx : x ∈ b := (h x).mp (List.mem_cons_self ..)
    refine (List.Perm.cons x (perm_of_mem h2 (hb.erase x) fun y => ?_)).trans (List.perm_cons_erase hx).symm
    rw [hb.mem_erase_iff]
    constructor
    · intro hy
      exact ⟨fun z => h1 (z ▸ hy), (h y).mp (List.mem_cons_of_mem _ hy)⟩
    · rintro ⟨h3, h4⟩
      exact (List.mem_cons.mp ((h y).mpr h4)).resolve_left h3
end L2

set_option maxHeartbeats 4000000
namespace My
open PySem PySem.Spec PyProof.Rows L2
def top (i : Nat) : Stmt := PySem.Challenge.pw_plymap_k83_a_thread.main.body.getD i (.Pass ⟨0, 0, 0, 0⟩)
def s_check_size : Stmt := top 4
def s_nearest_to : Stmt := top 5
def s_cell_of : Stmt := top 6
def s_Track_init : Stmt := inClass (top 7) 0
def s_span_on : Stmt := top 8
def s_first_met : Stmt := top 9
def s_meets_cell : Stmt := top 10
def s_cells_about : Stmt := top 12
def s_thread_of : Stmt := top 13
def s_l_hand : Stmt := top 15
def s_l_next : Stmt := top 16
def s_l_take : Stmt := top 17
def s_l_draw : Stmt := top 18
def s_l_divisor : Stmt := top 19
def s_l_point : Stmt := top 20
def s_l_ahead : Stmt := top 21
def s_l_turn : Stmt := top 22
def s_l_fraction : Stmt := top 23
def s_l_whole : Stmt := top 24
def s_l_wholes : Stmt := top 25
def s_l_on : Stmt := top 26
def s_l_touch : Stmt := top 27
def s_l_inside : Stmt := top 28
def s_l_corner : Stmt := top 29
def s_l_border_met : Stmt := top 30
def s_l_through : Stmt := top 31
def s_l_meets : Stmt := top 32
def s_l_in_row : Stmt := top 33
def s_l_cells : Stmt := top 34
def s_law : Stmt := top 35
structure Adr where
  f_check_size : Addr
  d_check_size : FuncData
  f_nearest_to : Addr
  d_nearest_to : FuncData
  f_cell_of : Addr
  d_cell_of : FuncData
  f_Track_init : Addr
  d_Track_init : FuncData
  f_span_on : Addr
  d_span_on : FuncData
  f_first_met : Addr
  d_first_met : FuncData
  f_meets_cell : Addr
  d_meets_cell : FuncData
  f_cells_about : Addr
  d_cells_about : FuncData
  f_thread_of : Addr
  d_thread_of : FuncData
  f_l_hand : Addr
  d_l_hand : FuncData
  f_l_next : Addr
  d_l_next : FuncData
  f_l_take : Addr
  d_l_take : FuncData
  f_l_draw : Addr
  d_l_draw : FuncData
  f_l_divisor : Addr
  d_l_divisor : FuncData
  f_l_point : Addr
  d_l_point : FuncData
  f_l_ahead : Addr
  d_l_ahead : FuncData
  f_l_turn : Addr
  d_l_turn : FuncData
  f_l_fraction : Addr
  d_l_fraction : FuncData
  f_l_whole : Addr
  d_l_whole : FuncData
  f_l_wholes : Addr
  d_l_wholes : FuncData
  f_l_on : Addr
  d_l_on : FuncData
  f_l_touch : Addr
  d_l_touch : FuncData
  f_l_inside : Addr
  d_l_inside : FuncData
  f_l_corner : Addr
  d_l_corner : FuncData
  f_l_border_met : Addr
  d_l_border_met : FuncData
  f_l_through : Addr
  d_l_through : FuncData
  f_l_meets : Addr
  d_l_meets : FuncData
  f_l_in_row : Addr
  d_l_in_row : FuncData
  f_l_cells : Addr
  d_l_cells : FuncData
  f_law : Addr
  d_law : FuncData
  c_Track : Addr
  p_thread_of : Addr
  q_thread_of : Addr
structure Txt (K : PySem.W.Frag) (mg : Str → Option Value) (t : Adr) : Prop where
  check_size : Fn K mg "check_size" s_check_size t.f_check_size t.d_check_size ["size"]
  nearest_to : Fn K mg "nearest_to" s_nearest_to t.f_nearest_to t.d_nearest_to ["top", "bottom"]
  cell_of : Fn K mg "cell_of" s_cell_of t.f_cell_of t.d_cell_of ["p", "size"]
  Track_init : FnI K "__init__" "Track.__init__" s_Track_init t.f_Track_init t.d_Track_init ["self", "p", "q", "size"]
  span_on : Fn K mg "span_on" s_span_on t.f_span_on t.d_span_on ["track", "axis", "k"]
  first_met : Fn K mg "first_met" s_first_met t.f_first_met t.d_first_met ["track", "cell"]
  meets_cell : Fn K mg "meets_cell" s_meets_cell t.f_meets_cell t.d_meets_cell ["p", "q", "cell", "size"]
  cells_about : Fn K mg "cells_about" s_cells_about t.f_cells_about t.d_cells_about ["p", "q", "cells", "size"]
  thread_of : Fn K mg "thread_of" s_thread_of t.f_thread_of t.d_thread_of ["p", "q", "cells", "size"]
  l_hand : Fn K mg "_law_hand" s_l_hand t.f_l_hand t.d_l_hand ["_law_script"]
  l_next : Fn K mg "_law_next" s_l_next t.f_l_next t.d_l_next ["_law_hand_here"]
  l_take : Fn K mg "_law_take" s_l_take t.f_l_take t.d_l_take ["_law_hand_here"]
  l_draw : Fn K mg "_law_draw" s_l_draw t.f_l_draw t.d_l_draw ["_law_hand_here", "_law_many"]
  l_divisor : Fn K mg "_law_divisor" s_l_divisor t.f_l_divisor t.d_l_divisor ["_law_one", "_law_other"]
  l_point : Fn K mg "_law_point" s_l_point t.f_l_point t.d_l_point ["_law_a", "_law_b", "_law_c"]
  l_ahead : Fn K mg "_law_ahead" s_l_ahead t.f_l_ahead t.d_l_ahead ["_law_p", "_law_q"]
  l_turn : Fn K mg "_law_turn" s_l_turn t.f_l_turn t.d_l_turn ["_law_p", "_law_q", "_law_r"]
  l_fraction : Fn K mg "_law_fraction" s_l_fraction t.f_l_fraction t.d_l_fraction ["_law_top", "_law_bottom"]
  l_whole : Fn K mg "_law_whole" s_l_whole t.f_l_whole t.d_l_whole ["_law_thing"]
  l_wholes : Fn K mg "_law_wholes" s_l_wholes t.f_l_wholes t.d_l_wholes ["_law_thing", "_law_many"]
  l_on : Fn K mg "_law_on" s_l_on t.f_l_on t.d_l_on ["_law_p", "_law_a", "_law_b"]
  l_touch : Fn K mg "_law_touch" s_l_touch t.f_l_touch t.d_l_touch ["_law_a", "_law_b", "_law_c", "_law_d"]
  l_inside : Fn K mg "_law_inside" s_l_inside t.f_l_inside t.d_l_inside ["_law_p", "_law_cell", "_law_size"]
  l_corner : Fn K mg "_law_corner" s_l_corner t.f_l_corner t.d_l_corner ["_law_cell", "_law_size", "_law_right", "_law_up"]
  l_border_met : Fn K mg "_law_border_met" s_l_border_met t.f_l_border_met t.d_l_border_met ["_law_p", "_law_q", "_law_low", "_law_high"]
  l_through : Fn K mg "_law_through" s_l_through t.f_l_through t.d_l_through ["_law_p", "_law_q", "_law_cell", "_law_size"]
  l_meets : Fn K mg "_law_meets" s_l_meets t.f_l_meets t.d_l_meets ["_law_p", "_law_q", "_law_cell", "_law_size"]
  l_in_row : Fn K mg "_law_in_row" s_l_in_row t.f_l_in_row t.d_l_in_row ["_law_cells_here", "_law_p", "_law_q"]
  l_cells : Fn K mg "_law_cells" s_l_cells t.f_l_cells t.d_l_cells ["_law_thing"]
  law : Fn K mg "law" s_law t.f_law t.d_law ["_law_script"]
  mk_Track : Mk K t.c_Track t.f_Track_init
  cl_Track : Cls K t.c_Track
  n_Track_begin : NoAttr K t.c_Track "begin"
  n_Track_far : NoAttr K t.c_Track "far"
  n_Track_half : NoAttr K t.c_Track "half"
  n_Track_length : NoAttr K t.c_Track "length"
  b_abs : mg "abs" = none
  b_bool : mg "bool" = none
  b_int : mg "int" = none
  b_isinstance : mg "isinstance" = none
  b_len : mg "len" = none
  b_list : mg "list" = none
  b_max : mg "max" = none
  b_min : mg "min" = none
  b_range : mg "range" = none
  b_sorted : mg "sorted" = none
  b_tuple : mg "tuple" = none
  m_Track : mg "Track" = some (.ref t.c_Track)
  lc_thread_of : t.d_thread_of.code = .ref t.q_thread_of
  lh_thread_of : PySem.W.codeHdIn K t.q_thread_of t.p_thread_of = true
section
variable {P : Program} {w : World} {K : PySem.W.Frag} {mg : Str → Option Value} {base : Heap} {t : Adr}
def sp_check_size : Sp := fun vs H Q _ => ∃ v x y, vs = [v] ∧ TupT H v [x, y] ∧ 0 < x ∧ Q .non H
theorem sc_check_size : FnScope ["size"] ["size"] (defScope s_check_size) := ⟨rfl, rfl, rfl, by decide +kernel, rfl, by decide +kernel, by decide +kernel⟩
theorem ok_check_size (T : Txt K mg t) : FnOk P w K mg base CX0 1 t.f_check_size t.d_check_size ["size"] sp_check_size := by
  refine T.check_size.F.ok (k := 0) sc_check_size (fun vs H Q E h => ?_) (fun cdv A outer s H vs Q E hr h => ?_)
  · obtain ⟨v, x, y, rfl, _⟩ := h
    rfl
  · obtain ⟨v, x, y, rfl, ⟨a, rfl, ha⟩, hx, k⟩ := h
    refine ⟨_, (@pss_one _ _ _ (@ps_if _ _ _ _ _ _ _ _ (@pt_cmpR _ _ _ _ _ _ _ _ op_le (@pe_ix _ _ _ _ _ _ _ ix_tup (pv 0) (@pe_int _ _ _ _) (fun _ _ => rfl)) (@pe_int _ _ _ _) (nomark _)) (@pss_one _ _ _ (@ps_never _ _)) (@pss_nil _))), ?_⟩
    refine st_ifN1 (pt_t (pu_le (pu_ixT (pu_v rfl) pu_c (SqT.of (ha)) rfl) pu_c)) (fun e => ?_) fun _ => k
    have := of_decide_eq_true e
    omega
def nrst (t b : Int) : Int := (2 * t + b).fdiv (2 * b)
theorem nrst_has {t b : Int} (hb : 0 < b) : (2 * nrst t b - 1) * b ≤ 2 * t ∧ 2 * t < (2 * nrst t b + 1) * b := by
  unfold nrst
  rw [Int.fdiv_eq_ediv_of_nonneg _ (by omega)]
  have h1 := Int.emod_nonneg (2 * t + b) (show 2 * b ≠ 0 by omega)
  have h2 := Int.emod_lt_of_pos (2 * t + b) (show 0 < 2 * b by omega)
  have h3 := Int.mul_ediv_add_emod (2 * t + b) (2 * b)
  revert h1 h2 h3
  generalize (2 * t + b) / (2 * b) = q
  generalize (2 * t + b) % (2 * b) = r
  intro h1 h2 h3
  have e1 : (2 * q - 1) * b = 2 * b * q - b := by grind
  have e2 : (2 * q + 1) * b = 2 * b * q + b := by grind
  omega
def sp_nearest_to : Sp := fun vs H Q _ => ∃ t b : Int, vs = [.int t, .int b] ∧ 0 < b ∧ Bd 1000 t ∧ Bd 1000 b ∧ Q (.int (nrst t b)) H
theorem sc_nearest_to : FnScope ["top", "bottom"] ["top", "bottom"] (defScope s_nearest_to) := ⟨rfl, rfl, rfl, by decide +kernel, rfl, by decide +kernel, by decide +kernel⟩
theorem ok_nearest_to (T : Txt K mg t) : FnOk P w K mg base CX0 1 t.f_nearest_to t.d_nearest_to ["top", "bottom"] sp_nearest_to := by
  refine T.nearest_to.F.ok (k := 0) sc_nearest_to (fun vs H Q E h => ?_) (fun cdv A outer s H vs Q E hr h => ?_)
  · obtain ⟨t, b, rfl, _⟩ := h
    rfl
  · obtain ⟨t, b, rfl, hb, bt, bb, k⟩ := h
    refine ⟨_, (@pss_one _ _ _ (@ps_ret _ _ _ _ (@pe_op _ _ _ _ _ _ _ _ op_fdivB (@pe_op _ _ _ _ _ _ _ _ op_add (@pe_op _ _ _ _ _ _ _ _ op_mulB (@pe_int _ _ _ _) (pv 0)) (pv 1)) (@pe_op _ _ _ _ _ _ _ _ op_mulB (@pe_int _ _ _ _) (pv 1))))), ?_⟩
    have b2 : Bd 2 (2 : Int) := by unfold Bd; decide
    exact st_ret (pu_fdiv (pu_add (pu_mul pu_c (pu_v rfl) (mulOk_of (b2) (bt) (by decide))) (pu_v rfl)) (pu_mul pu_c (pu_v rfl) (mulOk_of (b2) (bb) (by decide))) ⟨by omega, (b2.mul bb).mono (by decide)⟩) k
def sp_cell_of : Sp := fun vs H Q _ => ∃ v w p x y, vs = [v, w] ∧ AtP H v p ∧ TupT H w [x, y] ∧ Sz 400 p ∧ Bd 400 x ∧ Bd 400 y ∧ 0 < p.z ∧ 0 < x ∧ ∀ r H', Same H H' → TupT H' r [nrst (p.x * y) (p.z * x), nrst (p.y * y) (p.z * x)] → Q r H'
theorem sc_cell_of : FnScope ["p", "size", "bottom"] ["p", "size"] (defScope s_cell_of) := ⟨rfl, rfl, rfl, by decide +kernel, rfl, by decide +kernel, by decide +kernel⟩
theorem ok_cell_of (T : Txt K mg t) : FnOk P w K mg base CX0 2 t.f_cell_of t.d_cell_of ["p", "size"] sp_cell_of := by
  refine T.cell_of.F.ok (k := 1) sc_cell_of (fun vs H Q E h => ?_) (fun cdv A outer s H vs Q E hr h => ?_)
  · obtain ⟨v, w, p, x, y, rfl, _⟩ := h
    rfl
  · obtain ⟨v, w, p, x, y, rfl, ⟨a, rfl, ha⟩, ⟨b, rfl, hb⟩, zp, bx, by', hp, hx, k⟩ := h
    refine ⟨_, (@pss_cons _ _ _ _ _ (@ps_expr _ _ _ _ (@pe_fn _ _ _ _ _ _ _ _ _ _ _ _ _ _ T.check_size (ok_check_size T) hr (by decide) (@pa_cons _ _ _ _ _ (pv 1) (@pa_nil _) star_name) (by rfl) (by decide) (by rfl) (by rfl)) (by rfl)) (@pss_cons _ _ _ _ _ (@ps_set _ _ 2 _ _ _ _ sc_cell_of.nd rfl (Or.inl rfl) (@pe_op _ _ _ _ _ _ _ _ op_mulB (@pe_ix _ _ _ _ _ _ _ ix_tup (pv 0) (@pe_int _ _ _ _) (fun _ _ => rfl)) (@pe_ix _ _ _ _ _ _ _ ix_tup (pv 1) (@pe_int _ _ _ _) (fun _ _ => rfl))) (by rfl) (by first | exact .inl rfl | exact .inr rfl | assumption)) (@pss_one _ _ _ (@ps_ret _ _ _ _ (@pe_tup _ _ _ _ _ (@pa_cons _ _ _ _ _ (@pe_fn _ _ _ _ _ _ _ _ _ _ _ _ _ _ T.nearest_to (ok_nearest_to T) hr (by decide) (@pa_cons _ _ _ _ _ (@pe_op _ _ _ _ _ _ _ _ op_mulB (@pe_ix _ _ _ _ _ _ _ ix_tup (pv 0) (@pe_int _ _ _ _) (fun _ _ => rfl)) (@pe_ix _ _ _ _ _ _ _ ix_tup (pv 1) (@pe_int _ _ _ _) (fun _ _ => rfl))) (@pa_cons _ _ _ _ _ (pv 2) (@pa_nil _) star_name) star_bin) (by rfl) (by decide) (by rfl) (by rfl)) (@pa_cons _ _ _ _ _ (@pe_fn _ _ _ _ _ _ _ _ _ _ _ _ _ _ T.nearest_to (ok_nearest_to T) hr (by decide) (@pa_cons _ _ _ _ _ (@pe_op _ _ _ _ _ _ _ _ op_mulB (@pe_ix _ _ _ _ _ _ _ ix_tup (pv 0) (@pe_int _ _ _ _) (fun _ _ => rfl)) (@pe_ix _ _ _ _ _ _ _ ix_tup (pv 1) (@pe_int _ _ _ _) (fun _ _ => rfl))) (@pa_cons _ _ _ _ _ (pv 2) (@pa_nil _) star_name) star_bin) (by rfl) (by decide) (by rfl) (by rfl)) (@pa_nil _) star_call) star_call)))))), ?_⟩
    refine st_exprG (R := fun v H' => H = H') (gv_call (pa_c (pu_v rfl) pa_n) fun Q f => ⟨_, x, y, rfl, TupT.of hb, hx, f _ _ rfl⟩) ?_
    rintro _ _ rfl
    refine st_set (pu_mul (pu_ixT (pu_v rfl) pu_c (SqT.of (ha)) rfl) (pu_ixT (pu_v rfl) pu_c (SqT.of (hb)) rfl) (mulOk_of (zp.z) (bx) (by decide))) ?_
    have hpos : 0 < p.z * x := Int.mul_pos hp hx
    have near : ∀ {i : Int}, Bd 400 i → ∀ Q : VK, Q (.int (nrst (i * y) (p.z * x))) H → sp_nearest_to ([V.int (i * y), V.int (p.z * x)] ++ []) H Q E0 := fun {i} bi Q f => ⟨_, _, rfl, hpos, (bi.mul by').mono (by decide), (zp.z.mul bx).mono (by decide), f⟩
    refine st_retG (gv_tup (pa_c (pu_call (pa_c (pu_mul (pu_ixT (pu_v rfl) pu_c (SqT.of (ha)) rfl) (pu_ixT (pu_v rfl) pu_c (SqT.of (hb)) rfl) (mulOk_of (zp.x) (by') (by decide))) (pa_c (pu_v rfl) pa_n)) (near zp.x)) (pa_c (pu_call (pa_c (pu_mul (pu_ixT (pu_v rfl) pu_c (SqT.of (ha)) rfl) (pu_ixT (pu_v rfl) pu_c (SqT.of (hb)) rfl) (mulOk_of (zp.y) (by') (by decide))) (pa_c (pu_v rfl) pa_n)) (near zp.y)) pa_n)) (by show 2 ≤ sizeLine; decide)) ?_
    rintro _ _ ⟨r, hr, rfl, rfl⟩
    exact k _ _ (Same.upd hr) (TupT.of (ns := [nrst (p.x * y) (p.z * x), nrst (p.y * y) (p.z * x)]) upd_same)
def sp_Track_init (t : Adr) : Sp := fun vs H Q _ => ∃ (x dx : Addr) (vp vq vz : V) (p q : Pt3) (s0 s1 : Int), vs = [.ref x, vp, vq, vz] ∧ H x = some (.ins t.c_Track dx []) ∧ AtP H vp p ∧ AtP H vq q ∧ TupT H vz [s0, s1] ∧ Sz 400 p ∧ Sz 400 q ∧ Bd 400 s0 ∧ Bd 400 s1 ∧
  ∀ H', SameB x H H' → TrackAt t.c_Track H' (.ref x) (2 * s1 * p.x * q.z) (2 * s1 * p.y * q.z) (2 * s1 * q.x * p.z - 2 * s1 * p.x * q.z) (2 * s1 * q.y * p.z - 2 * s1 * p.y * q.z) (s0 * p.z * q.z) (mx1 (2 * s1 * q.x * p.z - 2 * s1 * p.x * q.z) * mx1 (2 * s1 * q.y * p.z - 2 * s1 * p.y * q.z)) → Q .non H'
theorem bd_mx1 {n : Nat} {a : Int} (h : Bd n a) (hn : 1 ≤ n) : Bd n (mx1 a) := by
  unfold mx1
  split
  · unfold Bd
    have : 2 ^ 1 ≤ 2 ^ n := Nat.pow_le_pow_right (by decide) hn
    show 1 < 2 ^ n
    omega
  · refine h.le ?_
    omega
theorem sc_Track_init : FnScope ["self", "p", "q", "size", "scale"] ["self", "p", "q", "size"] (defScope s_Track_init) := ⟨rfl, rfl, rfl, by decide +kernel, rfl, by decide +kernel, by decide +kernel⟩
theorem ok_Track_init (T : Txt K mg t) : FnOk P w K mg base CX0 1 t.f_Track_init t.d_Track_init ["self", "p", "q", "size"] (sp_Track_init t) := by
  refine T.Track_init.F.ok (k := 0) sc_Track_init (fun vs H Q E h => ?_) (fun cdv A outer s H vs Q E hr h => ?_)
  · obtain ⟨x, dx, vp, vq, vz, p, q, s0, s1, rfl, _⟩ := h
    rfl
  · obtain ⟨x, dx, vp, vq, vz, p, q, s0, s1, rfl, hx, ⟨a, rfl, ha⟩, ⟨b, rfl, hb⟩, ⟨c, rfl, hc⟩, zp, zq, b0, b1, k⟩ := h
    refine ⟨_, (@pss_cons _ _ _ _ _ (@ps_set _ _ 4 _ _ _ _ sc_Track_init.nd rfl (Or.inl rfl) (@pe_op _ _ _ _ _ _ _ _ op_mulB (@pe_int _ _ _ _) (@pe_ix _ _ _ _ _ _ _ ix_tup (pv 3) (@pe_int _ _ _ _) (fun _ _ => rfl))) (by rfl) (by first | exact .inl rfl | exact .inr rfl | assumption)) (@pss_cons _ _ _ _ _ (@ps_fld _ _ _ _ _ _ _ _ (pv 0) (@pe_tup _ _ _ _ _ (@pa_cons _ _ _ _ _ (@pe_op _ _ _ _ _ _ _ _ op_mulB (@pe_op _ _ _ _ _ _ _ _ op_mulB (pv 4) (@pe_ix _ _ _ _ _ _ _ ix_tup (pv 1) (@pe_int _ _ _ _) (fun _ _ => rfl))) (@pe_ix _ _ _ _ _ _ _ ix_tup (pv 2) (@pe_int _ _ _ _) (fun _ _ => rfl))) (@pa_cons _ _ _ _ _ (@pe_op _ _ _ _ _ _ _ _ op_mulB (@pe_op _ _ _ _ _ _ _ _ op_mulB (pv 4) (@pe_ix _ _ _ _ _ _ _ ix_tup (pv 1) (@pe_int _ _ _ _) (fun _ _ => rfl))) (@pe_ix _ _ _ _ _ _ _ ix_tup (pv 2) (@pe_int _ _ _ _) (fun _ _ => rfl))) (@pa_nil _) star_bin) star_bin)) rfl) (@pss_cons _ _ _ _ _ (@ps_fld _ _ _ _ _ _ _ _ (pv 0) (@pe_tup _ _ _ _ _ (@pa_cons _ _ _ _ _ (@pe_op _ _ _ _ _ _ _ _ op_sub (@pe_op _ _ _ _ _ _ _ _ op_mulB (@pe_op _ _ _ _ _ _ _ _ op_mulB (pv 4) (@pe_ix _ _ _ _ _ _ _ ix_tup (pv 2) (@pe_int _ _ _ _) (fun _ _ => rfl))) (@pe_ix _ _ _ _ _ _ _ ix_tup (pv 1) (@pe_int _ _ _ _) (fun _ _ => rfl))) (@pe_ix _ _ _ _ _ _ _ ix_tup (@pe_fld _ _ _ _ _ (pv 0) rfl) (@pe_int _ _ _ _) (fun _ _ => rfl))) (@pa_cons _ _ _ _ _ (@pe_op _ _ _ _ _ _ _ _ op_sub (@pe_op _ _ _ _ _ _ _ _ op_mulB (@pe_op _ _ _ _ _ _ _ _ op_mulB (pv 4) (@pe_ix _ _ _ _ _ _ _ ix_tup (pv 2) (@pe_int _ _ _ _) (fun _ _ => rfl))) (@pe_ix _ _ _ _ _ _ _ ix_tup (pv 1) (@pe_int _ _ _ _) (fun _ _ => rfl))) (@pe_ix _ _ _ _ _ _ _ ix_tup (@pe_fld _ _ _ _ _ (pv 0) rfl) (@pe_int _ _ _ _) (fun _ _ => rfl))) (@pa_nil _) star_bin) star_bin)) rfl) (@pss_cons _ _ _ _ _ (@ps_fld _ _ _ _ _ _ _ _ (pv 0) (@pe_op _ _ _ _ _ _ _ _ op_mulB (@pe_op _ _ _ _ _ _ _ _ op_mulB (@pe_ix _ _ _ _ _ _ _ ix_tup (pv 3) (@pe_int _ _ _ _) (fun _ _ => rfl)) (@pe_ix _ _ _ _ _ _ _ ix_tup (pv 1) (@pe_int _ _ _ _) (fun _ _ => rfl))) (@pe_ix _ _ _ _ _ _ _ ix_tup (pv 2) (@pe_int _ _ _ _) (fun _ _ => rfl))) rfl) (@pss_one _ _ _ (@ps_fld _ _ _ _ _ _ _ _ (pv 0) (@pe_op _ _ _ _ _ _ _ _ op_mulB (@pe_callB _ _ _ _ _ _ _ _ _ (call_max2 rfl) (by rfl) T.b_max PyProof.Rows.boot_max (@pa_cons _ _ _ _ _ (@pe_callB _ _ _ _ _ _ _ _ _ call_abs (by rfl) T.b_abs PyProof.Rows.boot_abs (@pa_cons _ _ _ _ _ (@pe_ix _ _ _ _ _ _ _ ix_tup (@pe_fld _ _ _ _ _ (pv 0) rfl) (@pe_int _ _ _ _) (fun _ _ => rfl)) (@pa_nil _) star_sub) (by decide) (by decide) (by rfl) (by rfl)) (@pa_cons _ _ _ _ _ (@pe_int _ _ _ _) (@pa_nil _) star_con) star_call) (by decide) (by decide) (by rfl) (by rfl)) (@pe_callB _ _ _ _ _ _ _ _ _ (call_max2 rfl) (by rfl) T.b_max PyProof.Rows.boot_max (@pa_cons _ _ _ _ _ (@pe_callB _ _ _ _ _ _ _ _ _ call_abs (by rfl) T.b_abs PyProof.Rows.boot_abs (@pa_cons _ _ _ _ _ (@pe_ix _ _ _ _ _ _ _ ix_tup (@pe_fld _ _ _ _ _ (pv 0) rfl) (@pe_int _ _ _ _) (fun _ _ => rfl)) (@pa_nil _) star_sub) (by decide) (by decide) (by rfl) (by rfl)) (@pa_cons _ _ _ _ _ (@pe_int _ _ _ _) (@pa_nil _) star_con) star_call) (by decide) (by decide) (by rfl) (by rfl))) rfl)))))), ?_⟩
    have b2 : Bd 2 (2 : Int) := by unfold Bd; decide
    have two : ([] : List V).length + 2 ≤ sizeLine := by decide
    have ne1 : ¬ ("far" : Str) = "begin" := by decide +kernel
    have ne2 : ¬ ("half" : Str) = "begin" := by decide +kernel
    have ne3 : ¬ ("length" : Str) = "begin" := by decide +kernel
    have ne4 : ¬ ("half" : Str) = "far" := by decide +kernel
    have ne5 : ¬ ("length" : Str) = "far" := by decide +kernel
    have ne6 : ¬ ("length" : Str) = "half" := by decide +kernel
    have bs := b2.mul b1
    have lt : ∀ {f : Str} {v : V} {fs : List (Str × V)} {n : Nat}, fs.length ≤ n → n < 900 → (putF f v fs).length < 1000 ∧ (putF f v fs).length ≤ n + 1 := fun {f v fs n} h1 h2 => by
      have := length_putF f v fs
      omega
    refine st_set (pu_mul pu_c (pu_ixT (pu_v rfl) pu_c (SqT.of (hc)) rfl) (mulOk_of (b2) (b1) (by decide))) ?_
    refine st_fld (a := x) (gv_tup (pa_c (pu_mul (pu_mul (pu_v rfl) (pu_ixT (pu_v rfl) pu_c (SqT.of (ha)) rfl) (mulOk_of (bs) (zp.x) (by decide))) (pu_ixT (pu_v rfl) pu_c (SqT.of (hb)) rfl) (mulOk_of (bs.mul zp.x) (zq.z) (by decide))) (pa_c (pu_mul (pu_mul (pu_v rfl) (pu_ixT (pu_v rfl) pu_c (SqT.of (ha)) rfl) (mulOk_of (bs) (zp.y) (by decide))) (pu_ixT (pu_v rfl) pu_c (SqT.of (hb)) rfl) (mulOk_of (bs.mul zp.y) (zq.z) (by decide))) pa_n)) two) T.cl_Track T.n_Track_begin ?_
    rintro _ _ ⟨ab, hab, rfl, rfl⟩
    have nab : x ≠ ab := ne_of_none hx hab
    refine ⟨pu_v rfl, dx, [], Same.upd hab _ _ hx, by decide, ?_⟩
    have g1 : (upd (upd H ab (.tup [.int (2 * s1 * p.x * q.z), .int (2 * s1 * p.y * q.z)])) x (.ins t.c_Track dx (putF "begin" (.ref ab) []))) ab = some (.tup ([2 * s1 * p.x * q.z, 2 * s1 * p.y * q.z].map V.int)) := by
      rw [upd_ne nab.symm, upd_same]
      rfl
    have g2 : SameB x H (upd (upd H ab (.tup [.int (2 * s1 * p.x * q.z), .int (2 * s1 * p.y * q.z)])) x (.ins t.c_Track dx (putF "begin" (.ref ab) []))) := (Same.upd hab).b.trans SameB.upd
    have g3 : (upd (upd H ab (.tup [.int (2 * s1 * p.x * q.z), .int (2 * s1 * p.y * q.z)])) x (.ins t.c_Track dx (putF "begin" (.ref ab) []))) x = some (.ins t.c_Track dx (putF "begin" (.ref ab) [])) := upd_same
    revert g1 g2 g3
    generalize upd (upd H ab (.tup [.int (2 * s1 * p.x * q.z), .int (2 * s1 * p.y * q.z)])) x (.ins t.c_Track dx (putF "begin" (.ref ab) [])) = G1
    intro g1 g2 g3
    have nxa : a ≠ x := ne_of ha hx (by intro z; cases z)
    have nxb : b ≠ x := ne_of hb hx (by intro z; cases z)
    have nxc : c ≠ x := ne_of hc hx (by intro z; cases z)
    have ha1 := g2 _ _ ha nxa
    have hb1 := g2 _ _ hb nxb
    have hc1 := g2 _ _ hc nxc
    have l1 : (putF "begin" (.ref ab) []).lookup ("begin" : Str) = some (.ref ab) := by rw [lookup_putF, if_pos rfl]
    have BG : ∀ {σ : L2.St} {i v : Int}, σ[0]? = some (some (.ref x)) → atI ([2 * s1 * p.x * q.z, 2 * s1 * p.y * q.z].map V.int) i = some (.int v) → Pu (tOp (rIxT K) (tFld K (tVar 0) "begin") (tC (.int i))) σ G1 (.int v) := fun h e => pu_ixT (pu_fld (pu_v h) g3 T.cl_Track T.n_Track_begin l1) pu_c (SqT.of g1) e
    refine st_fld (a := x) (gv_tup (pa_c (pu_sub (pu_mul (pu_mul (pu_v rfl) (pu_ixT (pu_v rfl) pu_c (SqT.of (hb1)) rfl) (mulOk_of (bs) (zq.x) (by decide))) (pu_ixT (pu_v rfl) pu_c (SqT.of (ha1)) rfl) (mulOk_of (bs.mul zq.x) (zp.z) (by decide))) (BG rfl rfl)) (pa_c (pu_sub (pu_mul (pu_mul (pu_v rfl) (pu_ixT (pu_v rfl) pu_c (SqT.of (hb1)) rfl) (mulOk_of (bs) (zq.y) (by decide))) (pu_ixT (pu_v rfl) pu_c (SqT.of (ha1)) rfl) (mulOk_of (bs.mul zq.y) (zp.z) (by decide))) (BG rfl rfl)) pa_n)) two) T.cl_Track T.n_Track_far ?_
    rintro _ _ ⟨af, haf, rfl, rfl⟩
    have naf : x ≠ af := ne_of_none g3 haf
    refine ⟨pu_v rfl, dx, _, Same.upd haf _ _ g3, (lt (n := 0) (Nat.le_refl _) (by decide)).1, ?_⟩
    have bf0 : Bd 1203 (2 * s1 * q.x * p.z - 2 * s1 * p.x * q.z) := (((bs.mul zq.x).mul zp.z).sub ((bs.mul zp.x).mul zq.z)).mono (by decide)
    have bf1 : Bd 1203 (2 * s1 * q.y * p.z - 2 * s1 * p.y * q.z) := (((bs.mul zq.y).mul zp.z).sub ((bs.mul zp.y).mul zq.z)).mono (by decide)
    revert k bf0 bf1
    generalize 2 * s1 * q.x * p.z - 2 * s1 * p.x * q.z = f0
    generalize 2 * s1 * q.y * p.z - 2 * s1 * p.y * q.z = f1
    intro k bf0 bf1
    have g4 : (upd (upd G1 af (.tup [.int f0, .int f1])) x (.ins t.c_Track dx (putF "far" (.ref af) (putF "begin" (.ref ab) [])))) af = some (.tup ([f0, f1].map V.int)) := by
      rw [upd_ne naf.symm, upd_same]
      rfl
    have g5 : SameB x G1 (upd (upd G1 af (.tup [.int f0, .int f1])) x (.ins t.c_Track dx (putF "far" (.ref af) (putF "begin" (.ref ab) [])))) := (Same.upd haf).b.trans SameB.upd
    have g6 : (upd (upd G1 af (.tup [.int f0, .int f1])) x (.ins t.c_Track dx (putF "far" (.ref af) (putF "begin" (.ref ab) [])))) x = some (.ins t.c_Track dx (putF "far" (.ref af) (putF "begin" (.ref ab) []))) := upd_same
    revert g4 g5 g6
    generalize upd (upd G1 af (.tup [.int f0, .int f1])) x (.ins t.c_Track dx (putF "far" (.ref af) (putF "begin" (.ref ab) []))) = G2
    intro g4 g5 g6
    have ha2 := g5 _ _ ha1 nxa
    have hb2 := g5 _ _ hb1 nxb
    have hc2 := g5 _ _ hc1 nxc
    have gab := g5 _ _ g1 nab.symm
    refine st_fld (a := x) (R := fun v H' => v = .int (s0 * p.z * q.z) ∧ G2 = H') ((pu_mul (pu_mul (pu_ixT (pu_v rfl) pu_c (SqT.of (hc2)) rfl) (pu_ixT (pu_v rfl) pu_c (SqT.of (ha2)) rfl) (mulOk_of (b0) (zp.z) (by decide))) (pu_ixT (pu_v rfl) pu_c (SqT.of (hb2)) rfl) (mulOk_of (b0.mul zp.z) (zq.z) (by decide))).gv' ⟨rfl, rfl⟩) T.cl_Track T.n_Track_half ?_
    rintro _ _ ⟨rfl, rfl⟩
    refine ⟨pu_v rfl, dx, _, g6, (lt (n := 1) (lt (n := 0) (Nat.le_refl _) (by decide)).2 (by decide)).1, ?_⟩
    have l2 : (putF "half" (.int (s0 * p.z * q.z)) (putF "far" (.ref af) (putF "begin" (.ref ab) []))).lookup ("far" : Str) = some (.ref af) := by rw [lookup_putF, if_neg (fun z => ne4 z.symm), lookup_putF, if_pos rfl]
    have FR : ∀ {σ : L2.St} {i v : Int}, σ[0]? = some (some (.ref x)) → atI ([f0, f1].map V.int) i = some (.int v) → Pu (tOp (rIxT K) (tFld K (tVar 0) "far") (tC (.int i))) σ (upd G2 x (.ins t.c_Track dx (putF "half" (.int (s0 * p.z * q.z)) (putF "far" (.ref af) (putF "begin" (.ref ab) []))))) (.int v) := fun h e => pu_ixT (pu_fld (pu_v h) upd_same T.cl_Track T.n_Track_far l2) pu_c (SqT.of (by rw [upd_ne naf.symm]; exact g4)) e
    refine st_fld1 (a := x) (R := fun v H' => v = .int (mx1 f0 * mx1 f1) ∧ (upd G2 x (.ins t.c_Track dx (putF "half" (.int (s0 * p.z * q.z)) (putF "far" (.ref af) (putF "begin" (.ref ab) []))))) = H') ((pu_mul (pu_max2 (pa_c (pu_abs (pa_c (FR rfl rfl) pa_n)) (pa_c pu_c pa_n))) (pu_max2 (pa_c (pu_abs (pa_c (FR rfl rfl) pa_n)) (pa_c pu_c pa_n))) (mulOk_of (bd_mx1 bf0 (by decide)) (bd_mx1 bf1 (by decide)) (by decide))).gv' ⟨rfl, rfl⟩) T.cl_Track T.n_Track_length ?_
    rintro _ _ ⟨rfl, rfl⟩
    refine ⟨pu_v rfl, dx, _, upd_same, (lt (n := 2) (lt (n := 1) (lt (n := 0) (Nat.le_refl _) (by decide)).2 (by decide)).2 (by decide)).1, ?_⟩
    refine k _ (g2.trans (g5.trans (SameB.upd.trans SameB.upd))) ⟨x, dx, ab, af, _, rfl, upd_same, ?_, ?_, ?_, ?_, ?_, ?_⟩
    · rw [lookup_putF, if_neg (fun z => ne3 z.symm), lookup_putF, if_neg (fun z => ne2 z.symm), lookup_putF, if_neg (fun z => ne1 z.symm), lookup_putF, if_pos rfl]
    · rw [lookup_putF, if_neg (fun z => ne5 z.symm), lookup_putF, if_neg (fun z => ne4 z.symm), lookup_putF, if_pos rfl]
    · rw [lookup_putF, if_neg (fun z => ne6 z.symm), lookup_putF, if_pos rfl]
    · rw [lookup_putF, if_pos rfl]
    · rw [upd_ne nab.symm, upd_ne nab.symm]
      exact gab
    · rw [upd_ne naf.symm, upd_ne naf.symm]
      exact g4
def sp_span_on (t : Adr) : Sp := fun vs H Q _ => ∃ (v : V) (ax k b0 b1 f0 f1 m L bx fx u h : Int), vs = [v, .int ax, .int k] ∧ TrackAt t.c_Track H v b0 b1 f0 f1 m L ∧ atI ([b0, b1].map V.int) ax = some (.int bx) ∧ atI ([f0, f1].map V.int) ax = some (.int fx) ∧ (2 * k - 1) * m - bx = -u ∧ (2 * k + 1) * m - bx = h - u ∧
  Bd 400 k ∧ Bd 2000 m ∧ Bd 2000 bx ∧ Bd 2000 fx ∧ Bd 4000 L ∧ ∀ r H', Same H H' → SpT H' r (spn fx u h (L.fdiv (fx.natAbs : Int)) L) → Q r H'
theorem sc_span_on : FnScope ["track", "axis", "k", "low", "high", "far", "scale"] ["track", "axis", "k"] (defScope s_span_on) := ⟨rfl, rfl, rfl, by decide +kernel, rfl, by decide +kernel, by decide +kernel⟩
theorem ok_span_on (T : Txt K mg t) : FnOk P w K mg base CX0 1 t.f_span_on t.d_span_on ["track", "axis", "k"] (sp_span_on t) := by
  refine T.span_on.F.ok (k := 0) sc_span_on (fun vs H Q E h => ?_) (fun cdv A outer s H vs Q E hr h => ?_)
  · obtain ⟨v, ax, k, b0, b1, f0, f1, m, L, bx, fx, u, h, rfl, _⟩ := h
    rfl
  · obtain ⟨v, ax, k, b0, b1, f0, f1, m, L, bx, fx, u, hh, rfl, ⟨x, dx, ab, af, fs, rfl, hx, e1, e2, e3, e4, hb, hf⟩, eb, ef, el, eh, bk, bm, bb, bf, bL, kk⟩ := h
    refine ⟨_, (@pss_cons _ _ _ _ _ (@ps_set _ _ 3 _ _ _ _ sc_span_on.nd rfl (Or.inl rfl) (@pe_op _ _ _ _ _ _ _ _ op_sub (@pe_op _ _ _ _ _ _ _ _ op_mulB (@pe_op _ _ _ _ _ _ _ _ op_sub (@pe_op _ _ _ _ _ _ _ _ op_mulB (@pe_int _ _ _ _) (pv 2)) (@pe_int _ _ _ _)) (@pe_fld _ _ _ _ _ (pv 0) rfl)) (@pe_ix _ _ _ _ _ _ _ ix_tup (@pe_fld _ _ _ _ _ (pv 0) rfl) (pv 1) (fun _ _ => rfl))) (by rfl) (by first | exact .inl rfl | exact .inr rfl | assumption)) (@pss_cons _ _ _ _ _ (@ps_set _ _ 4 _ _ _ _ sc_span_on.nd rfl (Or.inl rfl) (@pe_op _ _ _ _ _ _ _ _ op_sub (@pe_op _ _ _ _ _ _ _ _ op_mulB (@pe_op _ _ _ _ _ _ _ _ op_add (@pe_op _ _ _ _ _ _ _ _ op_mulB (@pe_int _ _ _ _) (pv 2)) (@pe_int _ _ _ _)) (@pe_fld _ _ _ _ _ (pv 0) rfl)) (@pe_ix _ _ _ _ _ _ _ ix_tup (@pe_fld _ _ _ _ _ (pv 0) rfl) (pv 1) (fun _ _ => rfl))) (by rfl) (by first | exact .inl rfl | exact .inr rfl | assumption)) (@pss_cons _ _ _ _ _ (@ps_set _ _ 5 _ _ _ _ sc_span_on.nd rfl (Or.inl rfl) (@pe_ix _ _ _ _ _ _ _ ix_tup (@pe_fld _ _ _ _ _ (pv 0) rfl) (pv 1) (fun _ _ => rfl)) (by rfl) (by first | exact .inl rfl | exact .inr rfl | assumption)) (@pss_cons _ _ _ _ _ (@ps_if _ _ _ _ _ _ _ _ (@pt_cmpR _ _ _ _ _ _ _ _ op_eq (pv 5) (@pe_int _ _ _ _) (nomark _)) (@pss_one _ _ _ (@ps_ret _ _ _ _ (@pe_ifExp _ _ _ _ _ _ _ _ (@pt_chain _ _ _ _ _ _ _ _ _ _ _ _ op_le op_lt (pv 3) (@pe_int _ _ _ _) (pv 4) (by with_unfolding_all rfl)) (@pe_tup _ _ _ _ _ (@pa_cons _ _ _ _ _ (@pe_tup _ _ _ _ _ (@pa_cons _ _ _ _ _ (@pe_int _ _ _ _) (@pa_cons _ _ _ _ _ (@pe_int _ _ _ _) (@pa_nil _) star_con) star_con)) (@pa_cons _ _ _ _ _ (@pe_tup _ _ _ _ _ (@pa_cons _ _ _ _ _ (@pe_fld _ _ _ _ _ (pv 0) rfl) (@pa_cons _ _ _ _ _ (@pe_int _ _ _ _) (@pa_nil _) star_con) star_attr)) (@pa_nil _) star_tup) star_tup)) (@pe_tup _ _ _ _ _ (@pa_cons _ _ _ _ _ (@pe_tup _ _ _ _ _ (@pa_cons _ _ _ _ _ (@pe_int _ _ _ _) (@pa_cons _ _ _ _ _ (@pe_int _ _ _ _) (@pa_nil _) star_con) star_con)) (@pa_cons _ _ _ _ _ (@pe_tup _ _ _ _ _ (@pa_cons _ _ _ _ _ (@pe_int _ _ _ _) (@pa_cons _ _ _ _ _ (@pe_un _ _ _ _ _ _ un_neg (@pe_int _ _ _ _)) (@pa_nil _) star_un) star_con)) (@pa_nil _) star_tup) star_tup))))) (@pss_nil _)) (@pss_cons _ _ _ _ _ (@ps_set _ _ 6 _ _ _ _ sc_span_on.nd rfl (Or.inl rfl) (@pe_op _ _ _ _ _ _ _ _ op_fdivB (@pe_fld _ _ _ _ _ (pv 0) rfl) (@pe_callB _ _ _ _ _ _ _ _ _ call_abs (by rfl) T.b_abs PyProof.Rows.boot_abs (@pa_cons _ _ _ _ _ (pv 5) (@pa_nil _) star_name) (by decide) (by decide) (by rfl) (by rfl))) (by rfl) (by first | exact .inl rfl | exact .inr rfl | assumption)) (@pss_cons _ _ _ _ _ (@ps_if _ _ _ _ _ _ _ _ (@pt_cmpR _ _ _ _ _ _ _ _ op_gt (pv 5) (@pe_int _ _ _ _) (nomark _)) (@pss_one _ _ _ (@ps_ret _ _ _ _ (@pe_tup _ _ _ _ _ (@pa_cons _ _ _ _ _ (@pe_tup _ _ _ _ _ (@pa_cons _ _ _ _ _ (@pe_op _ _ _ _ _ _ _ _ op_mulB (pv 3) (pv 6)) (@pa_cons _ _ _ _ _ (@pe_int _ _ _ _) (@pa_nil _) star_con) star_bin)) (@pa_cons _ _ _ _ _ (@pe_tup _ _ _ _ _ (@pa_cons _ _ _ _ _ (@pe_op _ _ _ _ _ _ _ _ op_mulB (pv 4) (pv 6)) (@pa_cons _ _ _ _ _ (@pe_un _ _ _ _ _ _ un_neg (@pe_int _ _ _ _)) (@pa_nil _) star_un) star_bin)) (@pa_nil _) star_tup) star_tup)))) (@pss_nil _)) (@pss_one _ _ _ (@ps_ret _ _ _ _ (@pe_tup _ _ _ _ _ (@pa_cons _ _ _ _ _ (@pe_tup _ _ _ _ _ (@pa_cons _ _ _ _ _ (@pe_op _ _ _ _ _ _ _ _ op_mulB (@pe_un _ _ _ _ _ _ un_neg (pv 4)) (pv 6)) (@pa_cons _ _ _ _ _ (@pe_int _ _ _ _) (@pa_nil _) star_con) star_bin)) (@pa_cons _ _ _ _ _ (@pe_tup _ _ _ _ _ (@pa_cons _ _ _ _ _ (@pe_op _ _ _ _ _ _ _ _ op_mulB (@pe_un _ _ _ _ _ _ un_neg (pv 3)) (pv 6)) (@pa_cons _ _ _ _ _ (@pe_int _ _ _ _) (@pa_nil _) star_con) star_bin)) (@pa_nil _) star_tup) star_tup)))))))))), ?_⟩
    have b2 : Bd 2 (2 : Int) := by unfold Bd; decide
    have bk1 : Bd 410 (2 * k - 1) := ((b2.mul bk).sub (Bd.mono (m := 2) (by unfold Bd; decide) (by decide))).mono (by decide)
    have bk2 : Bd 410 (2 * k + 1) := ((b2.mul bk).add (Bd.mono (m := 2) (by unfold Bd; decide) (by decide))).mono (by decide)
    have blo : Bd 3000 (-u) := by
      rw [← el]
      exact (((bk1.mul bm).mono (by decide : 410 + 2000 ≤ 2500)).sub (bb.mono (by decide))).mono (by decide)
    have bhi : Bd 3000 (hh - u) := by
      rw [← eh]
      exact (((bk2.mul bm).mono (by decide : 410 + 2000 ≤ 2500)).sub (bb.mono (by decide))).mono (by decide)
    have BG : ∀ {σ : L2.St}, σ[0]? = some (some (.ref x)) → σ[1]? = some (some (.int ax)) → Pu (tOp (rIxT K) (tFld K (tVar 0) "begin") (tVar 1)) σ H (.int bx) := fun h1 h2 => pu_ixT (pu_fld (pu_v h1) hx T.cl_Track T.n_Track_begin e1) (pu_v h2) (SqT.of hb) eb
    have HF : ∀ {σ : L2.St}, σ[0]? = some (some (.ref x)) → Pu (tFld K (tVar 0) "half") σ H (.int m) := fun h1 => pu_fld (pu_v h1) hx T.cl_Track T.n_Track_half e3
    have LN : ∀ {σ : L2.St} {H' : Hp}, Same H H' → σ[0]? = some (some (.ref x)) → Pu (tFld K (tVar 0) "length") σ H' (.int L) := fun s h1 => pu_fld (pu_v h1) (s _ _ hx) T.cl_Track T.n_Track_length e4
    refine st_set (v := .int (-u)) (pu_cast (pu_sub (pu_mul (pu_sub (pu_mul pu_c (pu_v rfl) (mulOk_of (b2) (bk) (by decide))) pu_c) (HF rfl) (mulOk_of (bk1) (bm) (by decide))) (BG rfl rfl)) (by rw [el])) ?_
    refine st_set (v := .int (hh - u)) (pu_cast (pu_sub (pu_mul (pu_add (pu_mul pu_c (pu_v rfl) (mulOk_of (b2) (bk) (by decide))) pu_c) (HF rfl) (mulOk_of (bk2) (bm) (by decide))) (BG rfl rfl)) (by rw [eh])) ?_
    refine st_set (pu_ixT (pu_fld (pu_v rfl) hx T.cl_Track T.n_Track_far e2) (pu_v rfl) (SqT.of hf) ef) ?_
    refine st_ifN (pt_t (pu_eqI (pu_v rfl) pu_c)) (fun e => ?_) fun e => ?_
    · have e0 : fx = 0 := of_decide_eq_true e
      refine st_retG (R := fun r H' => Same H H' ∧ SpT H' r (spn fx u hh (L.fdiv (fx.natAbs : Int)) L)) (gv_ifE (pt_chn (pu_v rfl) pu_c (pu_v rfl)) (fun c => ?_) fun c => ?_) fun r H' z => kk r H' z.1 z.2
      · rw [Bool.and_eq_true, decide_eq_true_iff, decide_eq_true_iff] at c
        have es : spn fx u hh (L.fdiv (fx.natAbs : Int)) L = ((0, 0), (L, 0)) := by unfold spn; rw [if_pos e0, if_pos c]
        rw [es]
        exact gv_span (fun _ _ => pu_c) (fun _ _ => pu_c) (fun _ s => LN s rfl) (fun _ _ => pu_c)
      · have c' : ¬ (-u ≤ 0 ∧ 0 < hh - u) := by
          rintro ⟨c1, c2⟩
          rw [decide_eq_true c1, decide_eq_true c2] at c
          cases c
        have es : spn fx u hh (L.fdiv (fx.natAbs : Int)) L = ((0, 0), (0, -1)) := by unfold spn; rw [if_pos e0, if_neg c']
        rw [es]
        exact gv_span (fun _ _ => pu_c) (fun _ _ => pu_c) (fun _ _ => pu_c) (fun _ _ => pu_neg pu_c)
    · have e0 : ¬ fx = 0 := of_decide_eq_false e
      have bfa : Bd 2000 (fx.natAbs : Int) := bf.le (by omega)
      refine st_set (pu_fdiv (LN (Same.refl _) rfl) (pu_abs (pa_c (pu_v rfl) pa_n)) ⟨by omega, bfa.mono (by decide)⟩) ?_
      have bB : Bd 4000 (L.fdiv (fx.natAbs : Int)) := by
        rw [Int.fdiv_eq_ediv_of_nonneg _ (by omega)]
        exact bL.le (Int.natAbs_ediv_le_natAbs _ _)
      refine st_ifN (pt_t (pu_gt (pu_v rfl) pu_c)) (fun c => ?_) fun c => ?_
      · have es : spn fx u hh (L.fdiv (fx.natAbs : Int)) L = ((-u * L.fdiv (fx.natAbs : Int), 0), ((hh - u) * L.fdiv (fx.natAbs : Int), -1)) := by unfold spn; rw [if_neg e0, if_pos (of_decide_eq_true c)]
        rw [es] at kk
        exact st_retG (gv_span (fun _ _ => pu_mul (pu_v rfl) (pu_v rfl) (mulOk_of (blo) (bB) (by decide))) (fun _ _ => pu_c) (fun _ _ => pu_mul (pu_v rfl) (pu_v rfl) (mulOk_of (bhi) (bB) (by decide))) (fun _ _ => pu_neg pu_c)) fun r H' z => kk r H' z.1 z.2
      · have es : spn fx u hh (L.fdiv (fx.natAbs : Int)) L = ((-(hh - u) * L.fdiv (fx.natAbs : Int), 1), (- -u * L.fdiv (fx.natAbs : Int), 0)) := by unfold spn; rw [if_neg e0, if_neg (of_decide_eq_false c)]
        rw [es] at kk
        exact st_retG (gv_span (fun _ _ => pu_mul (pu_neg (pu_v rfl)) (pu_v rfl) (mulOk_of (bhi.neg) (bB) (by decide))) (fun _ _ => pu_c) (fun _ _ => pu_mul (pu_neg (pu_v rfl)) (pu_v rfl) (mulOk_of (blo.neg) (bB) (by decide))) (fun _ _ => pu_c)) fun r H' z => kk r H' z.1 z.2
def sp_first_met (t : Adr) : Sp := fun vs H Q _ => ∃ (v w : V) (i j b0 b1 f0 f1 m L u0 u1 h : Int), vs = [v, w] ∧ TrackAt t.c_Track H v b0 b1 f0 f1 m L ∧ TupT H w [i, j] ∧ (2 * i - 1) * m - b0 = -u0 ∧ (2 * i + 1) * m - b0 = h - u0 ∧ (2 * j - 1) * m - b1 = -u1 ∧ (2 * j + 1) * m - b1 = h - u1 ∧
  Bd 400 i ∧ Bd 400 j ∧ Bd 2000 m ∧ Bd 2000 b0 ∧ Bd 2000 b1 ∧ Bd 2000 f0 ∧ Bd 2000 f1 ∧ Bd 4000 L ∧
  ∀ r H', Same H H' → ((TupT H' r [(fst2 f0 f1 u0 u1 h L).1, (fst2 f0 f1 u0 u1 h L).2] ∧ Met f0 f1 u0 u1 h L) ∨ (r = .non ∧ ¬ Met f0 f1 u0 u1 h L)) → Q r H'
theorem sc_first_met : FnScope ["track", "cell", "across", "upward", "first", "last"] ["track", "cell"] (defScope s_first_met) := ⟨rfl, rfl, rfl, by decide +kernel, rfl, by decide +kernel, by decide +kernel⟩
theorem ok_first_met (T : Txt K mg t) : FnOk P w K mg base CX0 2 t.f_first_met t.d_first_met ["track", "cell"] (sp_first_met t) := by
  refine T.first_met.F.ok (k := 1) sc_first_met (fun vs H Q E h => ?_) (fun cdv A outer s H vs Q E hr h => ?_)
  · obtain ⟨v, w, i, j, b0, b1, f0, f1, m, L, u0, u1, h, rfl, _⟩ := h
    rfl
  · obtain ⟨v, w, i, j, b0, b1, f0, f1, m, L, u0, u1, hh, rfl, tr, ⟨c, rfl, hc⟩, q1, q2, q3, q4, bi, bj, bm, bb0, bb1, bf0, bf1, bL, k⟩ := h
    refine ⟨_, (@pss_cons _ _ _ _ _ (@ps_set _ _ 2 _ _ _ _ sc_first_met.nd rfl (Or.inl rfl) (@pe_fn _ _ _ _ _ _ _ _ _ _ _ _ _ _ T.span_on (ok_span_on T) hr (by decide) (@pa_cons _ _ _ _ _ (pv 0) (@pa_cons _ _ _ _ _ (@pe_int _ _ _ _) (@pa_cons _ _ _ _ _ (@pe_ix _ _ _ _ _ _ _ ix_tup (pv 1) (@pe_int _ _ _ _) (fun _ _ => rfl)) (@pa_nil _) star_sub) star_con) star_name) (by rfl) (by decide) (by rfl) (by rfl)) (by rfl) (by first | exact .inl rfl | exact .inr rfl | assumption)) (@pss_cons _ _ _ _ _ (@ps_set _ _ 3 _ _ _ _ sc_first_met.nd rfl (Or.inl rfl) (@pe_fn _ _ _ _ _ _ _ _ _ _ _ _ _ _ T.span_on (ok_span_on T) hr (by decide) (@pa_cons _ _ _ _ _ (pv 0) (@pa_cons _ _ _ _ _ (@pe_int _ _ _ _) (@pa_cons _ _ _ _ _ (@pe_ix _ _ _ _ _ _ _ ix_tup (pv 1) (@pe_int _ _ _ _) (fun _ _ => rfl)) (@pa_nil _) star_sub) star_con) star_name) (by rfl) (by decide) (by rfl) (by rfl)) (by rfl) (by first | exact .inl rfl | exact .inr rfl | assumption)) (@pss_cons _ _ _ _ _ (@ps_set _ _ 4 _ _ _ _ sc_first_met.nd rfl (Or.inl rfl) (@pe_callB _ _ _ _ _ _ _ _ _ (call_max3 rfl hr.units) (by rfl) T.b_max PyProof.Rows.boot_max (@pa_cons _ _ _ _ _ (@pe_tup _ _ _ _ _ (@pa_cons _ _ _ _ _ (@pe_int _ _ _ _) (@pa_cons _ _ _ _ _ (@pe_int _ _ _ _) (@pa_nil _) star_con) star_con)) (@pa_cons _ _ _ _ _ (@pe_ix _ _ _ _ _ _ _ ix_tup (pv 2) (@pe_int _ _ _ _) (fun _ _ => rfl)) (@pa_cons _ _ _ _ _ (@pe_ix _ _ _ _ _ _ _ ix_tup (pv 3) (@pe_int _ _ _ _) (fun _ _ => rfl)) (@pa_nil _) star_sub) star_sub) star_tup) (by decide) (by decide) (by rfl) (by rfl)) (by rfl) (by first | exact .inl rfl | exact .inr rfl | assumption)) (@pss_cons _ _ _ _ _ (@ps_set _ _ 5 _ _ _ _ sc_first_met.nd rfl (Or.inl rfl) (@pe_callB _ _ _ _ _ _ _ _ _ (call_min3 rfl hr.units) (by rfl) T.b_min PyProof.Rows.boot_min (@pa_cons _ _ _ _ _ (@pe_tup _ _ _ _ _ (@pa_cons _ _ _ _ _ (@pe_fld _ _ _ _ _ (pv 0) rfl) (@pa_cons _ _ _ _ _ (@pe_int _ _ _ _) (@pa_nil _) star_con) star_attr)) (@pa_cons _ _ _ _ _ (@pe_ix _ _ _ _ _ _ _ ix_tup (pv 2) (@pe_int _ _ _ _) (fun _ _ => rfl)) (@pa_cons _ _ _ _ _ (@pe_ix _ _ _ _ _ _ _ ix_tup (pv 3) (@pe_int _ _ _ _) (fun _ _ => rfl)) (@pa_nil _) star_sub) star_sub) star_tup) (by decide) (by decide) (by rfl) (by rfl)) (by rfl) (by first | exact .inl rfl | exact .inr rfl | assumption)) (@pss_one _ _ _ (@ps_ret _ _ _ _ (@pe_ifExp _ _ _ _ _ _ _ _ (@pt_cmpR _ _ _ _ _ _ _ _ (op_leP hr.units) (pv 4) (pv 5) (nomark _)) (pv 4) (@pe_non _ _ _)))))))), ?_⟩
    refine st_setG (gv_call (R := fun r H' => Same H H' ∧ SpT H' r (spn f0 u0 hh (L.fdiv (f0.natAbs : Int)) L)) (pa_c (pu_v rfl) (pa_c pu_c (pa_c (pu_ixT (pu_v rfl) pu_c (SqT.of (hc)) rfl) pa_n))) fun Q f => ⟨v, 0, i, b0, b1, f0, f1, m, L, b0, f0, u0, hh, rfl, tr, rfl, rfl, q1, q2, bi, bm, bb0, bf0, bL, fun r H' s t => f _ _ ⟨s, t⟩⟩) ?_
    rintro r1 H1 ⟨s1, t1⟩
    have hc1 := s1 _ _ hc
    refine st_setG (gv_call (R := fun r H' => Same H1 H' ∧ SpT H' r (spn f1 u1 hh (L.fdiv (f1.natAbs : Int)) L)) (pa_c (pu_v rfl) (pa_c pu_c (pa_c (pu_ixT (pu_v rfl) pu_c (SqT.of (hc1)) rfl) pa_n))) fun Q f => ⟨v, 1, j, b0, b1, f0, f1, m, L, b1, f1, u1, hh, rfl, tr.same s1, rfl, rfl, q3, q4, bj, bm, bb1, bf1, bL, fun r H' s t => f _ _ ⟨s, t⟩⟩) ?_
    rintro r2 H2 ⟨s2, t2⟩
    have t1' := t1.same s2
    have tr2 := tr.same (s1.trans s2)
    have s12 := s1.trans s2
    unfold Met fst2 lst2 at k
    revert k t1' t2
    generalize spn f0 u0 hh (L.fdiv (f0.natAbs : Int)) L = A
    generalize spn f1 u1 hh (L.fdiv (f1.natAbs : Int)) L = B
    intro k t2 t1'
    have two : ([] : List V).length + 2 ≤ sizeLine := by decide
    obtain ⟨a1, x1, y1, rfl, h1, hx1, hy1⟩ := id t1'
    obtain ⟨a2, x2, y2, rfl, h2, hx2, hy2⟩ := id t2
    refine st_setG (gv_bestT (q := A.1) (r := B.1) mx2_or pu_c pu_c (fun _ s => have g := s _ _ h1; (pu_ixT (pu_v rfl) pu_c (SqT.of (g)) rfl)) (fun _ s => have g := s _ _ h2; (pu_ixT (pu_v rfl) pu_c (SqT.of (g)) rfl)) hx1 hx2) ?_
    rintro vf H3 ⟨s3, tf⟩
    obtain ⟨x, dx, ab, af, fs, rfl, tx, e1, e2, e3, e4, _, _⟩ := tr2.same s3
    have h1' := s3 _ _ h1
    have h2' := s3 _ _ h2
    refine st_setG (gv_bestT (q := A.2) (r := B.2) mn2_or (pu_fld (pu_v rfl) tx T.cl_Track T.n_Track_length e4) pu_c (fun _ s => have g := s _ _ h1'; (pu_ixT (pu_v rfl) pu_c (SqT.of (g)) rfl)) (fun _ s => have g := s _ _ h2'; (pu_ixT (pu_v rfl) pu_c (SqT.of (g)) rfl)) (hy1.same s3) (hy2.same s3)) ?_
    rintro vl H4 ⟨s4, tl⟩
    obtain ⟨pf, rfl, hpf⟩ := tf.same s4
    refine st_retG (R := fun r H' => H4 = H' ∧ ((TupT H4 r [(mx2 (mx2 (0, 0) A.1) B.1).1, (mx2 (mx2 (0, 0) A.1) B.1).2] ∧ le2 (mx2 (mx2 (0, 0) A.1) B.1) (mn2 (mn2 (L, 0) A.2) B.2)) ∨ (r = .non ∧ ¬ le2 (mx2 (mx2 (0, 0) A.1) B.1) (mn2 (mn2 (L, 0) A.2) B.2)))) (gv_ifE (pt_leP (pu_v rfl) (pu_v rfl) (TupT.of hpf) tl) (fun c => (pu_v rfl).gv' ⟨rfl, .inl ⟨TupT.of hpf, by unfold le2; exact of_decide_eq_true c⟩⟩) fun c => pu_c.gv' ⟨rfl, .inr ⟨rfl, by unfold le2; exact of_decide_eq_false c⟩⟩) ?_
    rintro r _ ⟨rfl, z⟩
    exact k r _ ((s12.trans s3).trans s4) z
def sp_meets_cell : Sp := fun vs H Q _ => ∃ (vp vq vc vz : V) (p q : Pt3) (i j s0 s1 : Int), vs = [vp, vq, vc, vz] ∧ AtP H vp p ∧ AtP H vq q ∧ TupT H vc [i, j] ∧ TupT H vz [s0, s1] ∧ Sz 400 p ∧ Sz 400 q ∧ Bd 400 i ∧ Bd 400 j ∧ Bd 400 s0 ∧ Bd 400 s1 ∧ 0 < p.z ∧ 0 < q.z ∧ 0 < s0 ∧ 0 < s1 ∧ Apart p q ∧
  ∀ b H', Same H H' → (b = true ↔ MeetP p q i j s0 s1) → Q (.bl b) H'
theorem sc_meets_cell : FnScope ["p", "q", "cell", "size"] ["p", "q", "cell", "size"] (defScope s_meets_cell) := ⟨rfl, rfl, rfl, by decide +kernel, rfl, by decide +kernel, by decide +kernel⟩
theorem ok_meets_cell (T : Txt K mg t) : FnOk P w K mg base CX0 3 t.f_meets_cell t.d_meets_cell ["p", "q", "cell", "size"] sp_meets_cell := by
  refine T.meets_cell.F.ok (k := 2) sc_meets_cell (fun vs H Q E h => ?_) (fun cdv A outer s H vs Q E hr h => ?_)
  · obtain ⟨vp, vq, vc, vz, p, q, i, j, s0, s1, rfl, _⟩ := h
    rfl
  · obtain ⟨vp, vq, vc, vz, p, q, i, j, s0, s1, rfl, hp, hq, hc, hz, zp, zq, bi, bj, b0, b1, p0, q0, s00, s10, ap, k⟩ := h
    refine ⟨_, (@pss_cons _ _ _ _ _ (@ps_expr _ _ _ _ (@pe_fn _ _ _ _ _ _ _ _ _ _ _ _ _ _ T.check_size (ok_check_size T) hr (by decide) (@pa_cons _ _ _ _ _ (pv 3) (@pa_nil _) star_name) (by rfl) (by decide) (by rfl) (by rfl)) (by rfl)) (@pss_one _ _ _ (@ps_ret _ _ _ _ (@pe_cmpR _ _ _ _ _ _ _ _ op_isnot_non (@pe_fn _ _ _ _ _ _ _ _ _ _ _ _ _ _ T.first_met (ok_first_met T) hr (by decide) (@pa_cons _ _ _ _ _ (@pe_make _ _ _ _ _ _ _ _ _ _ _ _ _ _ _ _ _ T.mk_Track (ok_Track_init T) (hr.mono (by decide)) rfl T.m_Track T.Track_init.b .nil pass0 (@pa_cons _ _ _ _ _ (pv 0) (@pa_cons _ _ _ _ _ (pv 1) (@pa_cons _ _ _ _ _ (pv 3) (@pa_nil _) star_name) star_name) star_name) (by decide) (by rfl) (by rfl)) (@pa_cons _ _ _ _ _ (pv 2) (@pa_nil _) star_name) star_call) (by rfl) (by decide) (by rfl) (by rfl)) (@pe_non _ _ _) (nomark _))))), ?_⟩
    have b2 : Bd 2 (2 : Int) := by unfold Bd; decide
    have bs := b2.mul b1
    refine st_exprG (R := fun v H' => H = H') (gv_call (pa_c (pu_v rfl) pa_n) fun Q f => ⟨_, s0, s1, rfl, hz, s00, f _ _ rfl⟩) ?_
    rintro _ _ rfl
    have bf0 : Bd 1203 (2 * s1 * q.x * p.z - 2 * s1 * p.x * q.z) := (((bs.mul zq.x).mul zp.z).sub ((bs.mul zp.x).mul zq.z)).mono (by decide)
    have bf1 : Bd 1203 (2 * s1 * q.y * p.z - 2 * s1 * p.y * q.z) := (((bs.mul zq.y).mul zp.z).sub ((bs.mul zp.y).mul zq.z)).mono (by decide)
    have ea : 2 * s1 * q.x * p.z - 2 * s1 * p.x * q.z = cX i s0 s1 q.x q.z p.z - cX i s0 s1 p.x p.z q.z := by unfold cX; grind
    have eb : 2 * s1 * q.y * p.z - 2 * s1 * p.y * q.z = cX j s0 s1 q.y q.z p.z - cX j s0 s1 p.y p.z q.z := by unfold cX; grind
    have pm := prog_meet (i := i) (j := j) p0 q0 s00 s10 ap ea eb rfl
    refine st_retG (R := fun v H' => ∃ b, v = .bl b ∧ Same H H' ∧ (b = true ↔ MeetP p q i j s0 s1)) (fun Q f => ?_) fun v H' ⟨b, e, s, z⟩ => by subst e; exact k b H' s z
    refine gv_callA (sp := sp_first_met t) (E := E0) (R := fun r H' => Same H H' ∧ ((∃ a, r = .ref a) ∧ MeetP p q i j s0 s1 ∨ (r = .non ∧ ¬ MeetP p q i j s0 s1))) (ga_cons (gv_make (R := fun v H' => Same H H' ∧ TrackAt t.c_Track H' v (2 * s1 * p.x * q.z) (2 * s1 * p.y * q.z) (2 * s1 * q.x * p.z - 2 * s1 * p.x * q.z) (2 * s1 * q.y * p.z - 2 * s1 * p.y * q.z) (s0 * p.z * q.z) (mx1 (2 * s1 * q.x * p.z - 2 * s1 * p.x * q.z) * mx1 (2 * s1 * q.y * p.z - 2 * s1 * p.y * q.z))) (pa_c (pu_v rfl) (pa_c (pu_v rfl) (pa_c (pu_v rfl) pa_n))) fun x dx nx ndx nex Q g => ?_) fun v H1 r1 => ga_cons (pu_v rfl).gv fun _ _ _ => ga_nil) ?_ _ ?_
    · have s1' : Same H (upd (upd H dx (.own x)) x (.ins t.c_Track dx [])) := (Same.upd ndx).trans (Same.upd (by rw [upd_ne nex.symm]; exact nx))
      refine ⟨x, dx, vp, vq, vz, p, q, s0, s1, rfl, upd_same, TupT.same hp s1', TupT.same hq s1', hz.same s1', zp, zq, b0, b1, fun H' sb tr => g H' ⟨fun b o e => ?_, tr⟩⟩
      exact sb b o (s1' b o e) (ne_of_none e nx)
    · rintro vs H2 ⟨v, H1, r, rfl, ⟨sA, tr⟩, y, H3, r2, rfl, ⟨rfl, rfl⟩, rfl, rfl⟩ Q g
      refine ⟨v, _, i, j, _, _, _, _, _, _, cX i s0 s1 p.x p.z q.z, cX j s0 s1 p.y p.z q.z, 2 * s0 * (p.z * q.z), rfl, tr, hc.same sA, by unfold cX; grind, by unfold cX; grind, by unfold cX; grind, by unfold cX; grind, bi, bj, ((b0.mul zp.z).mul zq.z).mono (by decide), ((bs.mul zp.x).mul zq.z).mono (by decide), ((bs.mul zp.y).mul zq.z).mono (by decide), bf0.mono (by decide), bf1.mono (by decide), ((bd_mx1 bf0 (by decide)).mul (bd_mx1 bf1 (by decide))).mono (by decide), fun r H' s z => g r H' ⟨sA.trans s, ?_⟩⟩
      unfold Met fst2 lst2 at z
      rw [pm] at z
      rcases z with ⟨⟨a, e, _⟩, z⟩ | z
      · exact .inl ⟨⟨a, e⟩, z⟩
      · exact .inr z
    · rintro r H' ⟨s, z⟩
      rcases z with ⟨⟨a, rfl⟩, z⟩ | ⟨rfl, z⟩
      · exact ⟨rfl, .inr ⟨a, rfl, f _ _ ⟨true, rfl, s, by simp [z]⟩⟩⟩
      · exact ⟨rfl, .inl ⟨rfl, f _ _ ⟨false, rfl, s, by simp [z]⟩⟩⟩
def lo2 (a b : Int) : Int := if b < a then b else a
def hi2 (a b : Int) : Int := if b > a then b else a
/-- what a cell in a list reads -/
def cellAt (H : Hp) : V → Int × Int
  | .ref a => match H a with
    | some (.tup [.int i, .int j]) => (i, j)
    | _ => (0, 0)
  | _ => (0, 0)
theorem cellAt_of {H : Hp} {v : V} {i j : Int} (h : TupT H v [i, j]) : cellAt H v = (i, j) := by
  obtain ⟨a, rfl, h⟩ := h
  show (match H a with
    | some (.tup [.int i, .int j]) => (i, j)
    | _ => (0, 0)) = _
  rw [h]
  rfl
/-- a list of cells -/
def CellsAt (H : Hp) (vs : List V) : Prop := ∀ v ∈ vs, ∃ i j, TupT H v [i, j]
def boxB (l r b t : Int) (c : Int × Int) : Bool := (decide (l ≤ c.1) && decide (c.1 ≤ r)) && (decide (b ≤ c.2) && decide (c.2 ≤ t))
def cP (p : Pt3) (x y : Int) : Int := nrst (p.x * y) (p.z * x)
def cQ (p : Pt3) (x y : Int) : Int := nrst (p.y * y) (p.z * x)
def sp_cells_about : Sp := fun vs H Q _ => ∃ (vp vq vz : V) (p q : Pt3) (l : Addr) (cs : List V) (x y : Int), vs = [vp, vq, .ref l, vz] ∧ AtP H vp p ∧ AtP H vq q ∧ H l = some (.lst cs) ∧ CellsAt H cs ∧ cs.length ≤ 1000 ∧ TupT H vz [x, y] ∧ Sz 400 p ∧ Sz 400 q ∧ Bd 400 x ∧ Bd 400 y ∧ 0 < p.z ∧ 0 < q.z ∧ 0 < x ∧
  ∀ D H', H D = none → Same H H' → H' D = some (.lst (cs.filter fun v => boxB (lo2 (cP p x y) (cP q x y)) (hi2 (cP p x y) (cP q x y)) (lo2 (cQ p x y) (cQ q x y)) (hi2 (cQ p x y) (cQ q x y)) (cellAt H v))) → Q (.ref D) H'
theorem pt_chn2 {σ : L2.St} {H : Hp} {ta tb tc : TE} {a b c : Int} (ha : Pu ta σ H (.int a)) (hb : Pu tb σ H (.int b)) (hc : Pu tc σ H (.int c)) : Pu (tChain (rI0 fun i j => .bl (decide (i ≤ j))) (rI0 fun i j => .bl (decide (i ≤ j))) ta tb tc) σ H (.bl (decide (a ≤ b) && decide (b ≤ c))) := fun Q q => ha _ (hb _ ⟨a, b, rfl, rfl, _, rfl, by
  by_cases h : a ≤ b
  · rw [if_pos (decide_eq_true h)]
    rw [decide_eq_true h, Bool.true_and] at q
    exact hc _ ⟨b, c, rfl, rfl, q⟩
  · rw [if_neg (by rw [decide_eq_false h]; decide)]
    rw [decide_eq_false h, Bool.false_and] at q
    exact q⟩)
theorem sc_cells_about : FnScope ["p", "q", "cells", "size", "here", "there", "left", "right", "low", "high"] ["p", "q", "cells", "size"] (defScope s_cells_about) := ⟨rfl, rfl, rfl, by decide +kernel, rfl, by decide +kernel, by decide +kernel⟩
theorem ok_cells_about (T : Txt K mg t) : FnOk P w K mg base CX0 3 t.f_cells_about t.d_cells_about ["p", "q", "cells", "size"] sp_cells_about := by
  refine T.cells_about.F.ok (k := 2) sc_cells_about (fun vs H Q E h => ?_) (fun cdv A outer s H vs Q E hr h => ?_)
  · obtain ⟨vp, vq, vz, p, q, l, cs, x, y, rfl, _⟩ := h
    rfl
  · obtain ⟨vp, vq, vz, p, q, l, cs, x, y, rfl, hp, hq, hl, hc, hz, tz, zp, zq, bx, by', p0, q0, x0, k⟩ := h
    refine ⟨_, (@pss_cons _ _ _ _ _ (@ps_set _ _ 4 _ _ _ _ sc_cells_about.nd rfl (Or.inl rfl) (@pe_fn _ _ _ _ _ _ _ _ _ _ _ _ _ _ T.cell_of (ok_cell_of T) hr (by decide) (@pa_cons _ _ _ _ _ (pv 0) (@pa_cons _ _ _ _ _ (pv 3) (@pa_nil _) star_name) star_name) (by rfl) (by decide) (by rfl) (by rfl)) (by rfl) (by first | exact .inl rfl | exact .inr rfl | assumption)) (@pss_cons _ _ _ _ _ (@ps_set _ _ 5 _ _ _ _ sc_cells_about.nd rfl (Or.inl rfl) (@pe_fn _ _ _ _ _ _ _ _ _ _ _ _ _ _ T.cell_of (ok_cell_of T) hr (by decide) (@pa_cons _ _ _ _ _ (pv 1) (@pa_cons _ _ _ _ _ (pv 3) (@pa_nil _) star_name) star_name) (by rfl) (by decide) (by rfl) (by rfl)) (by rfl) (by first | exact .inl rfl | exact .inr rfl | assumption)) (@pss_cons _ _ _ _ _ (@ps_set _ _ 6 _ _ _ _ sc_cells_about.nd rfl (Or.inr rfl) (@pe_callB _ _ _ _ _ _ _ _ _ (call_min2 rfl) (by rfl) T.b_min PyProof.Rows.boot_min (@pa_cons _ _ _ _ _ (@pe_ix _ _ _ _ _ _ _ ix_tup (pv 4) (@pe_int _ _ _ _) (fun _ _ => rfl)) (@pa_cons _ _ _ _ _ (@pe_ix _ _ _ _ _ _ _ ix_tup (pv 5) (@pe_int _ _ _ _) (fun _ _ => rfl)) (@pa_nil _) star_sub) star_sub) (by decide) (by decide) (by rfl) (by rfl)) (by rfl) (by first | exact .inl rfl | exact .inr rfl | assumption)) (@pss_cons _ _ _ _ _ (@ps_set _ _ 7 _ _ _ _ sc_cells_about.nd rfl (Or.inr rfl) (@pe_callB _ _ _ _ _ _ _ _ _ (call_max2 rfl) (by rfl) T.b_max PyProof.Rows.boot_max (@pa_cons _ _ _ _ _ (@pe_ix _ _ _ _ _ _ _ ix_tup (pv 4) (@pe_int _ _ _ _) (fun _ _ => rfl)) (@pa_cons _ _ _ _ _ (@pe_ix _ _ _ _ _ _ _ ix_tup (pv 5) (@pe_int _ _ _ _) (fun _ _ => rfl)) (@pa_nil _) star_sub) star_sub) (by decide) (by decide) (by rfl) (by rfl)) (by rfl) (by first | exact .inl rfl | exact .inr rfl | assumption)) (@pss_cons _ _ _ _ _ (@ps_set _ _ 8 _ _ _ _ sc_cells_about.nd rfl (Or.inr rfl) (@pe_callB _ _ _ _ _ _ _ _ _ (call_min2 rfl) (by rfl) T.b_min PyProof.Rows.boot_min (@pa_cons _ _ _ _ _ (@pe_ix _ _ _ _ _ _ _ ix_tup (pv 4) (@pe_int _ _ _ _) (fun _ _ => rfl)) (@pa_cons _ _ _ _ _ (@pe_ix _ _ _ _ _ _ _ ix_tup (pv 5) (@pe_int _ _ _ _) (fun _ _ => rfl)) (@pa_nil _) star_sub) star_sub) (by decide) (by decide) (by rfl) (by rfl)) (by rfl) (by first | exact .inl rfl | exact .inr rfl | assumption)) (@pss_cons _ _ _ _ _ (@ps_set _ _ 9 _ _ _ _ sc_cells_about.nd rfl (Or.inr rfl) (@pe_callB _ _ _ _ _ _ _ _ _ (call_max2 rfl) (by rfl) T.b_max PyProof.Rows.boot_max (@pa_cons _ _ _ _ _ (@pe_ix _ _ _ _ _ _ _ ix_tup (pv 4) (@pe_int _ _ _ _) (fun _ _ => rfl)) (@pa_cons _ _ _ _ _ (@pe_ix _ _ _ _ _ _ _ ix_tup (pv 5) (@pe_int _ _ _ _) (fun _ _ => rfl)) (@pa_nil _) star_sub) star_sub) (by decide) (by decide) (by rfl) (by rfl)) (by rfl) (by first | exact .inl rfl | exact .inr rfl | assumption)) (@pss_one _ _ _ (@ps_ret _ _ _ _ (pe_lcompFN (x := "cell") [("right", _, 7), ("low", _, 8), ("left", _, 6), ("high", _, 9)] rfl (@pi_list _ _ _ _ (pv 2)) (fun _ _ _ _ => pg_name (i := 0) (show (["cell", "right", "low", "left", "high"] : List Str).Nodup from by decide +kernel) rfl (Or.inl rfl) (.inr rfl)) (fun _ _ _ _ => (PW.pt (@pw_and _ _ _ _ _ _ _ (@pt_chain _ _ _ _ _ _ _ _ _ _ _ _ op_le op_le (pv 3) (@pe_ix _ _ _ _ _ _ _ (ix_tupK (K := K) rfl) (pv 0) (@pe_int _ _ _ _) (fun _ _ => rfl)) (pv 1) (by with_unfolding_all rfl)) (@pw_and1 _ _ _ _ (@pt_chain _ _ _ _ _ _ _ _ _ _ _ _ op_le op_le (pv 2) (@pe_ix _ _ _ _ _ _ _ (ix_tupK (K := K) rfl) (pv 0) (@pe_int _ _ _ _) (fun _ _ => rfl)) (pv 4) (by with_unfolding_all rfl)))))) (fun _ _ _ _ => (pv 0)) rfl rfl (by decide +kernel) (by decide +kernel) (Caught.cons (And.intro rfl (And.intro rfl (And.intro rfl rfl))) (Caught.cons (And.intro rfl (And.intro rfl (And.intro rfl rfl))) (Caught.cons (And.intro rfl (And.intro rfl (And.intro rfl rfl))) (Caught.cons (And.intro rfl (And.intro rfl (And.intro rfl rfl))) Caught.nil)))) rfl))))))))), ?_⟩
    refine st_setG (R := fun r H' => Same H H' ∧ TupT H' r [cP p x y, cQ p x y]) (gv_call (pa_c (pu_v rfl) (pa_c (pu_v rfl) pa_n)) fun Q f => ⟨vp, vz, p, x, y, rfl, hp, tz, zp, bx, by', p0, x0, fun r H' s t => f _ _ ⟨s, t⟩⟩) ?_
    rintro v1 H1 ⟨s1, t1⟩
    refine st_setG (R := fun r H' => Same H1 H' ∧ TupT H' r [cP q x y, cQ q x y]) (gv_call (pa_c (pu_v rfl) (pa_c (pu_v rfl) pa_n)) fun Q f => ⟨vq, vz, q, x, y, rfl, hq.same s1, tz.same s1, zq, bx, by', q0, x0, fun r H' s t => f _ _ ⟨s, t⟩⟩) ?_
    rintro v2 H2 ⟨s2, t2⟩
    have t1' := t1.same s2
    obtain ⟨a1, rfl, h1⟩ := t1'
    obtain ⟨a2, rfl, h2⟩ := t2
    refine st_set (v := .int (lo2 (cP p x y) (cP q x y))) (fun Q f => (pa_c (pu_ixT (pu_v rfl) pu_c (SqT.of (h1)) rfl) (pa_c (pu_ixT (pu_v rfl) pu_c (SqT.of (h2)) rfl) pa_n)) _ ⟨_, _, rfl, f⟩) ?_
    refine st_set (v := .int (hi2 (cP p x y) (cP q x y))) (fun Q f => (pa_c (pu_ixT (pu_v rfl) pu_c (SqT.of (h1)) rfl) (pa_c (pu_ixT (pu_v rfl) pu_c (SqT.of (h2)) rfl) pa_n)) _ ⟨_, _, rfl, f⟩) ?_
    refine st_set (v := .int (lo2 (cQ p x y) (cQ q x y))) (fun Q f => (pa_c (pu_ixT (pu_v rfl) pu_c (SqT.of (h1)) rfl) (pa_c (pu_ixT (pu_v rfl) pu_c (SqT.of (h2)) rfl) pa_n)) _ ⟨_, _, rfl, f⟩) ?_
    refine st_set (v := .int (hi2 (cQ p x y) (cQ q x y))) (fun Q f => (pa_c (pu_ixT (pu_v rfl) pu_c (SqT.of (h1)) rfl) (pa_c (pu_ixT (pu_v rfl) pu_c (SqT.of (h2)) rfl) pa_n)) _ ⟨_, _, rfl, f⟩) ?_
    have s12 := s1.trans s2
    refine st_retG (gv_compF (fun v => boxB (lo2 (cP p x y) (cP q x y)) (hi2 (cP p x y) (cP q x y)) (lo2 (cQ p x y) (cQ q x y)) (hi2 (cQ p x y) (cQ q x y)) (cellAt H v)) (pu_v rfl) (s12 _ _ hl) (by omega) (fun v => (KeepS.refl _).cons (some v)) (fun _ => rfl) ?_) ?_
    · intro v hv H' s'
      obtain ⟨i, j, tv⟩ := hc v hv
      show PuT _ _ H' (boxB _ _ _ _ (cellAt H v))
      rw [cellAt_of tv]
      obtain ⟨c, rfl, hcv⟩ := tv.same (s12.trans s')
      exact pt_and (pt_t (pt_chn2 (pu_v rfl) (pu_ixT (pu_v rfl) pu_c (SqT.of (hcv)) rfl) (pu_v rfl))) fun _ => pt_t (pt_chn2 (pu_v rfl) (pu_ixT (pu_v rfl) pu_c (SqT.of (hcv)) rfl) (pu_v rfl))
    · rintro _ _ ⟨D, hD, rfl, rfl⟩
      exact k D _ (same_none s12 hD) (s12.trans (Same.upd hD)) upd_same
def lamQ : Str := (("thread_of" : Str) ++ (".<locals>." : Str)) ++ ("<lambda>" : Str)
def lamP : Pos := ⟨60, 30, 60, 55⟩
theorem nrst_ge {t b i : Int} (hb : 0 < b) (h : (2 * i - 1) * b ≤ 2 * t) : i ≤ nrst t b := by
  obtain ⟨_, h2⟩ := nrst_has (t := t) hb
  have h5 := Int.lt_of_mul_lt_mul_right (Int.lt_of_le_of_lt h h2) (Int.le_of_lt hb)
  omega
theorem nrst_le {t b i : Int} (hb : 0 < b) (h : 2 * t < (2 * i + 1) * b) : nrst t b ≤ i := by
  obtain ⟨h1, _⟩ := nrst_has (t := t) hb
  have h5 := Int.lt_of_mul_lt_mul_right (Int.lt_of_le_of_lt h1 h) (Int.le_of_lt hb)
  omega
theorem cell_ge {i s0 s1 px pz qz : Int} (hp : 0 < pz) (hq : 0 < qz) (h0 : 0 < s0) (h : 0 ≤ cX i s0 s1 px pz qz) : i ≤ nrst (px * s1) (pz * s0) := by
  rw [cX_ge hq] at h
  refine nrst_ge (Int.mul_pos hp h0) ?_
  have e1 : (2 * i - 1) * (s0 * pz) = (2 * i - 1) * (pz * s0) := by rw [Int.mul_comm s0 pz]
  have e2 : 2 * s1 * px = 2 * (px * s1) := by grind
  omega
theorem cell_le {i s0 s1 px pz qz : Int} (hp : 0 < pz) (hq : 0 < qz) (h0 : 0 < s0) (h : cX i s0 s1 px pz qz < 2 * s0 * (pz * qz)) : nrst (px * s1) (pz * s0) ≤ i := by
  rw [cX_lt hq] at h
  refine nrst_le (Int.mul_pos hp h0) ?_
  have e1 : (2 * i + 1) * s0 * pz = (2 * i + 1) * (pz * s0) := by grind
  have e2 : 2 * s1 * px = 2 * (px * s1) := by grind
  omega
theorem lo_hi {a b i : Int} (h : (a ≤ i ∧ i ≤ b) ∨ (i ≤ a ∧ b ≤ i)) : lo2 a b ≤ i ∧ i ≤ hi2 a b := by
  unfold lo2 hi2
  constructor <;> split <;> omega
/-- no met cell is left out -/
theorem box_met {p q : Pt3} {s0 s1 : Int} {c : Int × Int} (hp : 0 < p.z) (hq : 0 < q.z) (h0 : 0 < s0) (m : metC p q s0 s1 c) : boxB (lo2 (cP p s0 s1) (cP q s0 s1)) (hi2 (cP p s0 s1) (cP q s0 s1)) (lo2 (cQ p s0 s1) (cQ q s0 s1)) (hi2 (cQ p s0 s1) (cQ q s0 s1)) c = true := by
  obtain ⟨h1, h2⟩ := between_cells m
  have ec : 2 * s0 * (q.z * p.z) = hC p q s0 := by unfold hC; rw [Int.mul_comm q.z p.z]
  have A : ∀ {x y i : Int}, ((cX i s0 s1 x p.z q.z < hC p q s0 ∧ 0 ≤ cX i s0 s1 y q.z p.z) ∨ (0 ≤ cX i s0 s1 x p.z q.z ∧ cX i s0 s1 y q.z p.z < hC p q s0)) → lo2 (nrst (x * s1) (p.z * s0)) (nrst (y * s1) (q.z * s0)) ≤ i ∧ i ≤ hi2 (nrst (x * s1) (p.z * s0)) (nrst (y * s1) (q.z * s0)) := fun h => lo_hi (by
    rcases h with ⟨a, b⟩ | ⟨a, b⟩
    · exact .inl ⟨cell_le hp hq h0 a, cell_ge hq hp h0 b⟩
    · exact .inr ⟨cell_ge hp hq h0 a, cell_le hq hp h0 (by rw [ec]; exact b)⟩)
  have a1 := A h1
  have a2 := A h2
  unfold boxB cP cQ
  simp only [Bool.and_eq_true, decide_eq_true_iff]
  exact ⟨a1, a2⟩
/-- the cells of a side's thread -/
def ThreadOf (p q : Pt3) (x y : Int) (cells cz : List (Int × Int)) : Prop := (∀ c, c ∈ cz ↔ c ∈ cells ∧ MeetP p q c.1 c.2 x y) ∧ cz.Pairwise fun c c' => c ≠ c' ∧ rowLe (fX p q y) (fY p q y) c c'
def sp_thread_of (p : Addr) : Sp := fun vs H Q _ => ∃ (vp vq vz : V) (a b : Pt3) (l : Addr) (cs : List V) (cells : List (Int × Int)) (x y : Int), vs = [vp, vq, .ref l, vz] ∧ AtP H vp a ∧ AtP H vq b ∧ H l = some (.lst cs) ∧ CellsT H cs cells ∧ (∀ c ∈ cells, Bd 400 c.1 ∧ Bd 400 c.2) ∧ cs.length < 64 ∧ TupT H vz [x, y] ∧ Sz 400 a ∧ Sz 400 b ∧ Bd 400 x ∧ Bd 400 y ∧ 0 < a.z ∧ 0 < b.z ∧ 0 < x ∧ 0 < y ∧ Apart a b ∧ TabOk H p lamQ lamP ∧
  ∀ D zs cz H', SameB p H H' → TabOk H' p lamQ lamP → H D = none → D ≠ p → H' D = some (.lst zs) → CellsT H' zs cz → ThreadOf a b x y cells cz → Q (.ref D) H'
theorem tup_b {H H' : Hp} {d : Addr} {kvs : List (List Key × V)} {v : V} {ns : List Int} (h : TupT H v ns) (s : SameB d H H') (hd : H d = some (.dT kvs)) : TupT H' v ns := by
  obtain ⟨a, rfl, ha⟩ := h
  exact ⟨a, rfl, s a _ ha (ne_of ha hd (fun z => nomatch z))⟩
theorem track_b {C d : Addr} {H H' : Hp} {kvs : List (List Key × V)} {v : V} {b0 b1 f0 f1 m L : Int} (h : TrackAt C H v b0 b1 f0 f1 m L) (s : SameB d H H') (hd : H d = some (.dT kvs)) : TrackAt C H' v b0 b1 f0 f1 m L := by
  obtain ⟨x, dx, ab, af, fs, rfl, h1, h2, h3, h4, h5, h6, h7⟩ := h
  exact ⟨x, dx, ab, af, fs, rfl, s _ _ h1 (ne_of h1 hd (fun z => nomatch z)), h2, h3, h4, h5, s _ _ h6 (ne_of h6 hd (fun z => nomatch z)), s _ _ h7 (ne_of h7 hd (fun z => nomatch z))⟩
theorem tab_b {H H' : Hp} {P d : Addr} {q : Str} {lp : Pos} {kvs : List (List Key × V)} (h : TabOk H P q lp) (s : SameB d H H') (hd : H d = some (.dT kvs)) : TabOk H' P q lp := by
  obtain ⟨ps, e, r⟩ := h
  refine ⟨ps, s P _ e (ne_of e hd (fun z => nomatch z)), r.imp id fun ⟨c, e1, e2⟩ => ⟨c, e1, s c _ e2 (ne_of e2 hd (fun z => nomatch z))⟩⟩
theorem tab_same {H H' : Hp} {P : Addr} {q : Str} {lp : Pos} (h : TabOk H P q lp) (s : Same H H') : TabOk H' P q lp := by
  obtain ⟨ps, e, r⟩ := h
  exact ⟨ps, s P _ e, r.imp id fun ⟨c, e1, e2⟩ => ⟨c, e1, s c _ e2⟩⟩
theorem cells_map {H : Hp} {g : V → Int × Int} : ∀ {zs : List V}, (∀ z ∈ zs, TupT H z (two (g z))) → CellsT H zs (zs.map g)
  | [], _ => .nil
  | z :: zs, h => .cons (h z (List.mem_cons_self ..)) (cells_map fun x hx => h x (List.mem_cons_of_mem _ hx))
theorem cells_mem {H : Hp} : ∀ {cs : List V} {cells : List (Int × Int)}, CellsT H cs cells → (∀ v ∈ cs, ∃ c ∈ cells, TupT H v [c.1, c.2]) ∧ ∀ c ∈ cells, ∃ v ∈ cs, TupT H v [c.1, c.2]
  | [], [], _ => ⟨fun v h => by simp at h, fun v h => by simp at h⟩
  | [], _ :: _, h => by cases h
  | _ :: _, [], h => by cases h
  | v :: cs, c :: cells, .cons p t => by
    obtain ⟨h1, h2⟩ := cells_mem (cells := cells) t
    refine ⟨fun u hu => ?_, fun u hu => ?_⟩
    · rcases List.mem_cons.mp hu with rfl | hu
      · exact ⟨c, List.mem_cons_self .., p⟩
      · obtain ⟨c', a, b⟩ := h1 u hu
        exact ⟨c', List.mem_cons_of_mem _ a, b⟩
    · rcases List.mem_cons.mp hu with rfl | hu
      · exact ⟨v, List.mem_cons_self .., p⟩
      · obtain ⟨c', a, b⟩ := h2 u hu
        exact ⟨c', List.mem_cons_of_mem _ a, b⟩
theorem cells_ys {H : Hp} : ∀ {ys : List V} {nss : List (List Int)}, TupsT H ys nss → (∀ ns ∈ nss, ∃ c, ns = two c) → (ys.map (cellAt H)).map two = nss
  | _, _, .nil, _ => rfl
  | _, _, .cons p t, h => by
    obtain ⟨c, e⟩ := h _ (List.mem_cons_self ..)
    subst e
    have := cells_ys t fun ns hns => h ns (List.mem_cons_of_mem _ hns)
    rw [List.map_cons, List.map_cons, this, cellAt_of p]
/-- the same of the second component: what a row sorted by where its cells are met is -/
theorem thread_row {p q : Pt3} {s0 s1 : Int} {zs : List V} {g : V → Int × Int} (hp : 0 < p.z) (hq : 0 < q.z) (h0 : 0 < s0) (hm : ∀ z ∈ zs, metC p q s0 s1 (g z)) (hn : (zs.map g).Nodup) (hs : zs.Pairwise fun a b => HT.lexLt (two (fstC p q s0 s1 (g b))) (two (fstC p q s0 s1 (g a))) = false) :
    (zs.map g).Pairwise fun c c' => c ≠ c' ∧ rowLe (fX p q s1) (fY p q s1) c c' := by
  rw [List.nodup_iff_pairwise_ne, List.pairwise_map] at hn
  rw [List.pairwise_map]
  have := hn.and hs
  refine this.imp_of_mem fun {a b} ha hb ⟨h1, h2⟩ => ⟨h1, row_cells hp hq h0 (hm a ha) (hm b hb) (lex2.mp h2)⟩
theorem sc_thread_of : FnScope ["p", "q", "cells", "size", "track", "firsts", "cell", "first"] ["p", "q", "cells", "size"] (defScope s_thread_of) := ⟨rfl, rfl, rfl, by decide +kernel, rfl, by decide +kernel, by decide +kernel⟩
theorem ok_thread_of (hB : BM base mg) (T : Txt K mg t) : FnOk P w K mg base CX0 4 t.f_thread_of t.d_thread_of ["p", "q", "cells", "size"] (sp_thread_of t.p_thread_of) := by
  refine T.thread_of.F.okL (k := 3) T.lc_thread_of sc_thread_of (fun vs H Q E h => ?_) (fun A outer s H vs Q E hr h => ?_)
  · obtain ⟨vp, vq, vz, a, b, l, cs, cells, x, y, rfl, _⟩ := h
    rfl
  · obtain ⟨vp, vq, vz, p, q, l, cs, cells, s0, s1, rfl, hp, hq, hl, hc, hcb, hz, tz, zp, zq, b0, b1, p0, q0, s00, s10, ap, hT, k⟩ := h
    refine ⟨_, (@pss_cons _ _ _ _ _ (@ps_expr _ _ _ _ (@pe_fn _ _ _ _ _ _ _ _ _ _ _ _ _ _ T.check_size (ok_check_size T) hr (by decide) (@pa_cons _ _ _ _ _ (pv 3) (@pa_nil _) star_name) (by rfl) (by decide) (by rfl) (by rfl)) (by rfl)) (@pss_cons _ _ _ _ _ (@ps_set _ _ 4 _ _ _ _ sc_thread_of.nd rfl (Or.inl rfl) (@pe_make _ _ _ _ _ _ _ _ _ _ _ _ _ _ _ _ _ T.mk_Track (ok_Track_init T) (hr.mono (by decide)) rfl T.m_Track T.Track_init.b .nil pass0 (@pa_cons _ _ _ _ _ (pv 0) (@pa_cons _ _ _ _ _ (pv 1) (@pa_cons _ _ _ _ _ (pv 3) (@pa_nil _) star_name) star_name) star_name) (by decide) (by rfl) (by rfl)) (by rfl) (by first | exact .inl rfl | exact .inr rfl | assumption)) (@pss_cons _ _ _ _ _ (@ps_set _ _ 5 _ _ _ _ sc_thread_of.nd rfl (Or.inr rfl) pe_dnewT (by rfl) (by first | exact .inl rfl | exact .inr rfl | assumption)) (@pss_cons _ _ _ _ _ (@ps_for _ _ _ _ _ _ _ _ PassesOwn.never rfl (@pi_list _ _ _ _ (@pe_fn _ _ _ _ _ _ _ _ _ _ _ _ _ _ T.cells_about (ok_cells_about T) hr (by decide) (@pa_cons _ _ _ _ _ (pv 0) (@pa_cons _ _ _ _ _ (pv 1) (@pa_cons _ _ _ _ _ (pv 2) (@pa_cons _ _ _ _ _ (pv 3) (@pa_nil _) star_name) star_name) star_name) star_name) (by rfl) (by decide) (by rfl) (by rfl))) (@pg_name _ _ 6 _ sc_thread_of.nd rfl (Or.inl rfl) (by first | exact .inl rfl | exact .inr rfl | assumption)) (@pss_cons _ _ _ _ _ (@ps_set _ _ 7 _ _ _ _ sc_thread_of.nd rfl (Or.inl rfl) (@pe_fn _ _ _ _ _ _ _ _ _ _ _ _ _ _ T.first_met (ok_first_met T) hr (by decide) (@pa_cons _ _ _ _ _ (pv 4) (@pa_cons _ _ _ _ _ (pv 6) (@pa_nil _) star_name) star_name) (by rfl) (by decide) (by rfl) (by rfl)) (by rfl) (by first | exact .inl rfl | exact .inr rfl | assumption)) (@pss_one _ _ _ (@ps_if _ _ _ _ _ _ _ _ (@pt_cmpR _ _ _ _ _ _ _ _ op_isnot_non (pv 7) (@pe_non _ _ _) (nomark _)) (@pss_one _ _ _ (ps_dput (hu_of hr) (pv 5) (pv 6) (pv 7) rfl)) (@pss_nil _)))) (by intro _; rfl)) (@pss_one _ _ _ (@ps_ret _ _ _ _ (pe_sortK1 (bk := false) (k := 0) (P := t.p_thread_of) (c := t.q_thread_of) (x := "cell") (y := "firsts") 5 (hr.mono (by decide)) (by rfl) T.b_sorted (@pa_cons _ _ _ _ _ (pv 5) (@pa_nil _) star_name) (srcOk_dict rfl) rfl rfl rfl T.lh_thread_of hB rfl (fun _ _ _ => rfl) rfl rfl rfl rfl (by decide +kernel) rfl rfl rfl rfl rfl (fun _ _ _ _ => (pe_dget (hu_of (Room.deeper (Room.in1 (Room.in1 (hr.mono (show 3 ≤ _ by decide)))) _)) (pv 1) (pv 0) (fun _ _ => rfl))) rfl rfl))))))), ?_⟩
    have b2 : Bd 2 (2 : Int) := by unfold Bd; decide
    have bs := b2.mul b1
    have bf0 : Bd 1203 (fX p q s1) := (((bs.mul zq.x).mul zp.z).sub ((bs.mul zp.x).mul zq.z)).mono (by decide)
    have bf1 : Bd 1203 (fY p q s1) := (((bs.mul zq.y).mul zp.z).sub ((bs.mul zp.y).mul zq.z)).mono (by decide)
    refine st_exprG (R := fun v H' => H = H') (gv_call (pa_c (pu_v rfl) pa_n) fun Q f => ⟨_, s0, s1, rfl, tz, s00, f _ _ rfl⟩) ?_
    rintro _ _ rfl
    refine st_setG (gv_make (R := fun v H' => Same H H' ∧ TrackAt t.c_Track H' v (2 * s1 * p.x * q.z) (2 * s1 * p.y * q.z) (fX p q s1) (fY p q s1) (s0 * p.z * q.z) (lC p q s1)) (pa_c (pu_v rfl) (pa_c (pu_v rfl) (pa_c (pu_v rfl) pa_n))) fun x dx nx ndx nex Q g => ?_) ?_
    · have s1' : Same H (upd (upd H dx (.own x)) x (.ins t.c_Track dx [])) := (Same.upd ndx).trans (Same.upd (by rw [upd_ne nex.symm]; exact nx))
      refine ⟨x, dx, vp, vq, vz, p, q, s0, s1, rfl, upd_same, TupT.same hp s1', TupT.same hq s1', tz.same s1', zp, zq, b0, b1, fun H' sb tr => g H' ⟨fun b o e => ?_, tr⟩⟩
      exact sb b o (s1' b o e) (ne_of_none e nx)
    rintro vt H1 ⟨sA, tr1⟩
    refine st_setG gv_newT ?_
    rintro _ _ ⟨d, hd, rfl, rfl⟩
    have s02 : Same H (upd H1 d (.dT (dInt []))) := sA.trans (Same.upd hd)
    have tr2 := tr1.same (Same.upd (o := .dT (dInt [])) hd)
    have hd2 : upd H1 d (.dT (dInt [])) d = some (.dT (dInt [])) := upd_same
    have hdn : H d = none := same_none sA hd
    revert s02 tr2 hd2
    generalize upd H1 d (.dT (dInt [])) = H2
    intro s02 tr2 hd2
    obtain ⟨cm1, cm2⟩ := cells_mem hc
    have hc2 : CellsAt H2 cs := fun v hv => by
      obtain ⟨c, _, tv⟩ := cm1 v hv
      exact ⟨_, _, tv.same s02⟩
    refine st_listG (K := K) (R := fun v H3 => ∃ D, H2 D = none ∧ v = .ref D ∧ Same H2 H3 ∧ H3 D = some (.lst (cs.filter fun v => boxB (lo2 (cP p s0 s1) (cP q s0 s1)) (hi2 (cP p s0 s1) (cP q s0 s1)) (lo2 (cQ p s0 s1) (cQ q s0 s1)) (hi2 (cQ p s0 s1) (cQ q s0 s1)) (cellAt H2 v)))) (gv_call (pa_c (pu_v rfl) (pa_c (pu_v rfl) (pa_c (pu_v rfl) (pa_c (pu_v rfl) pa_n)))) fun Q f => ⟨vp, vq, vz, p, q, l, cs, s0, s1, rfl, TupT.same hp s02, TupT.same hq s02, s02 _ _ hl, hc2, by omega, tz.same s02, zp, zq, b0, b1, p0, q0, s00, fun D H' nD s e => f _ _ ⟨D, nD, rfl, s, e⟩⟩) ?_
    rintro _ H3 ⟨D, nD, rfl, s23, hD⟩
    have s03 := s02.trans s23
    have hd3 := s23 _ _ hd2
    have tr3 := tr2.same s23
    have hT3 := tab_same hT s03
    have hmem : ∀ v ∈ cs, boxB (lo2 (cP p s0 s1) (cP q s0 s1)) (hi2 (cP p s0 s1) (cP q s0 s1)) (lo2 (cQ p s0 s1) (cQ q s0 s1)) (hi2 (cQ p s0 s1) (cQ q s0 s1)) (cellAt H2 v) = true → v ∈ (cs.filter fun v => boxB (lo2 (cP p s0 s1) (cP q s0 s1)) (hi2 (cP p s0 s1) (cP q s0 s1)) (lo2 (cQ p s0 s1) (cQ q s0 s1)) (hi2 (cQ p s0 s1) (cQ q s0 s1)) (cellAt H2 v)) := fun v h1 h2 => List.mem_filter.mpr ⟨h1, h2⟩
    have hsub : ∀ v ∈ (cs.filter fun v => boxB (lo2 (cP p s0 s1) (cP q s0 s1)) (hi2 (cP p s0 s1) (cP q s0 s1)) (lo2 (cQ p s0 s1) (cQ q s0 s1)) (hi2 (cQ p s0 s1) (cQ q s0 s1)) (cellAt H2 v)), v ∈ cs := fun v hv => (List.mem_filter.mp hv).1
    have hlen : (cs.filter fun v => boxB (lo2 (cP p s0 s1) (cP q s0 s1)) (hi2 (cP p s0 s1) (cP q s0 s1)) (lo2 (cQ p s0 s1) (cQ q s0 s1)) (hi2 (cQ p s0 s1) (cQ q s0 s1)) (cellAt H2 v)).length < 64 := Nat.lt_of_le_of_lt (List.length_filter_le _ _) hz
    revert hD hmem hsub hlen
    generalize (cs.filter fun v => boxB (lo2 (cP p s0 s1) (cP q s0 s1)) (hi2 (cP p s0 s1) (cP q s0 s1)) (lo2 (cQ p s0 s1) (cQ q s0 s1)) (hi2 (cQ p s0 s1) (cQ q s0 s1)) (cellAt H2 v)) = as
    intro hD hmem hsub hlen
    refine ⟨D, as, rfl, fun i σ H' => ∃ (kvs : List (List Int × V)) (z1 z2 : Option V), σ = [some vp, some vq, some (.ref l), some vz, some vt, some (.ref d), z1, z2] ∧ SameB d H3 H' ∧ H' d = some (.dT (dInt kvs)) ∧ kvs.length ≤ i ∧ (∀ pr ∈ kvs, ∃ c, pr.1 = two c ∧ c ∈ cells ∧ metC p q s0 s1 c ∧ TupT H' pr.2 (two (fstC p q s0 s1 c))) ∧ (∀ j v, j < i → as[j]? = some v → metC p q s0 s1 (cellAt H2 v) → two (cellAt H2 v) ∈ kvs.map (·.1)), ⟨[], none, none, rfl, .refl _ _, hd3, Nat.le_refl _, fun pr h => by simp at h, fun j v h => by omega⟩, fun i σ H' _ ⟨kvs, z1, z2, _, sb, hd', _⟩ => SqL.of (sb _ _ hD (ne_of hD hd3 (fun z => nomatch z))), ?_, ?_⟩
    · rintro i x σ H4 hx ⟨kvs, z1, z2, rfl, sb, hd4, hk4, hv4, ha4⟩
      have hxc := hsub x (List.mem_of_getElem? hx)
      have hi : i < as.length := (List.getElem?_eq_some_iff.mp hx).1
      obtain ⟨c, hcc, tx⟩ := cm1 x hxc
      have ex : cellAt H2 x = c := cellAt_of (tx.same s02)
      have tx4 : TupT H4 x [c.1, c.2] := tup_b (tx.same s03) sb hd3
      have tr4 : TrackAt t.c_Track H4 vt (2 * s1 * p.x * q.z) (2 * s1 * p.y * q.z) (fX p q s1) (fY p q s1) (s0 * p.z * q.z) (lC p q s1) := track_b tr3 sb hd3
      obtain ⟨bi, bj⟩ := hcb c hcc
      refine st_setG (R := fun r H5 => Same H4 H5 ∧ ((TupT H5 r (two (fstC p q s0 s1 c)) ∧ metC p q s0 s1 c) ∨ (r = .non ∧ ¬ metC p q s0 s1 c))) (gv_call (pa_c (pu_v rfl) (pa_c (pu_v rfl) pa_n)) fun Q f => ⟨vt, x, c.1, c.2, _, _, _, _, _, _, cX c.1 s0 s1 p.x p.z q.z, cX c.2 s0 s1 p.y p.z q.z, hC p q s0, rfl, tr4, tx4, by unfold cX; grind, by unfold cX hC; grind, by unfold cX; grind, by unfold cX hC; grind, bi, bj, ((b0.mul zp.z).mul zq.z).mono (by decide), ((bs.mul zp.x).mul zq.z).mono (by decide), ((bs.mul zp.y).mul zq.z).mono (by decide), bf0.mono (by decide), bf1.mono (by decide), ((bd_mx1 bf0 (by decide)).mul (bd_mx1 bf1 (by decide))).mono (by decide), fun r H' s z => f _ _ ⟨s, z⟩⟩) ?_
      rintro r H5 ⟨s45, z⟩
      have hd5 := s45 _ _ hd4
      have sb5 : SameB d H3 H5 := fun b o e n => s45 b o (sb b o e n)
      have hv5 : ∀ pr ∈ kvs, ∃ c, pr.1 = two c ∧ c ∈ cells ∧ metC p q s0 s1 c ∧ TupT H5 pr.2 (two (fstC p q s0 s1 c)) := fun pr h => by
        obtain ⟨c', h1, h2, h3, h4⟩ := hv4 pr h
        exact ⟨c', h1, h2, h3, h4.same s45⟩
      rcases z with ⟨tr, m⟩ | ⟨rfl, nm⟩
      · obtain ⟨ra, rfl, hra⟩ := tr
        refine st_ifN1 (b := true) (pt_t (pu_isnotR (pu_v rfl) pu_c)) (fun _ => st_putT1 (ks := two c) (pu_v rfl) (pu_v rfl) (pu_v rfl) (tx4.same s45) hd5 (by omega) ⟨putI kvs (two c) (.ref ra), _, _, rfl, sb5.trans SameB.upd, upd_same, ?_, ?_, ?_⟩) (fun e => by cases e)
        · have := congrArg List.length (putI_keys kvs (two c) (.ref ra))
          rw [List.length_map] at this
          rw [this]
          split
          · rw [List.length_map]; omega
          · rw [List.length_append, List.length_map, List.length_singleton]; omega
        · intro pr hpr
          obtain ⟨c', h1, h2, h3, h4⟩ := putI_all (F := fun k v => ∃ c, k = two c ∧ c ∈ cells ∧ metC p q s0 s1 c ∧ TupT H5 v (two (fstC p q s0 s1 c))) hv5 ⟨c, rfl, hcc, m, ra, rfl, hra⟩ pr hpr
          exact ⟨c', h1, h2, h3, tup_b h4 SameB.upd hd5⟩
        · intro j v hj hjv hm
          rw [putI_keys]
          by_cases e : j = i
          · subst e
            rw [hx] at hjv; cases hjv
            rw [ex]
            split
            · assumption
            · exact List.mem_append_right _ (List.mem_singleton.mpr rfl)
          · have := ha4 j v (by omega) hjv hm
            split
            · exact this
            · exact List.mem_append_left _ this
      · refine st_ifN1 (b := false) (pt_t (pu_isnotN (pu_v rfl) pu_c)) (fun e => by cases e) (fun _ => ⟨kvs, _, _, rfl, sb5, hd5, by omega, hv5, fun j v hj hjv hm => ?_⟩)
        by_cases e : j = i
        · subst e
          rw [hx] at hjv; cases hjv
          rw [ex] at hm
          exact absurd hm nm
        · exact ha4 j v (by omega) hjv hm
    · rintro σ H5 ⟨kvs, z1, z2, rfl, sb, hd5, hk5, hv5, ha5⟩
      have hT5 := tab_b hT3 sb hd3
      refine st_retG (R := fun v H' => ∃ D zs H6 H7 ys, SameB t.p_thread_of H5 H6 ∧ TabOk H6 t.p_thread_of lamQ lamP ∧ KeysD H6 (dInt kvs) ys ∧ ((dInt kvs).map (·.1)).Nodup ∧ Same H6 H7 ∧ H7 D = none ∧ v = .ref D ∧ H' = upd H7 D (.lst zs) ∧ SortBy .non ys (ys.map fun y => two (fstC p q s0 s1 (cellAt H6 y))) zs) (gv_sortD (pa_c (pu_v rfl) pa_n) hT5 hd5 fun H6 ys s6 t6 hd6 ky nd => ?_) ?_
      · have ty := keysD_ints ky
        have hyl : ys.length < 64 := by
          have := Paired.length ty
          rw [List.length_map] at this
          omega
        refine ⟨hyl, fun y => two (fstC p q s0 s1 (cellAt H6 y)), fun y hy => ⟨by unfold two; simp, fun H7 s7 => ?_⟩, fun H7 D zs s7 hD hs => ⟨D, zs, H6, H7, ys, s6, t6, ky, nd, s7, hD, rfl, rfl, hs⟩⟩
        obtain ⟨ns, hns, tyy⟩ := tups_at ty hy
        obtain ⟨v, hv, hval⟩ := dInt_find hns
        obtain ⟨c, h1, _, _, h4⟩ := hv5 _ hv
        have e1 : ns = two c := h1
        subst e1
        have ec : cellAt H6 y = c := cellAt_of tyy
        dsimp only
        rw [ec]
        refine pu_getT (d := d) (pu_v rfl) (pu_v rfl) (tyy.same s7) (s7 _ _ hd6) hval _ ⟨.refl _, ?_⟩
        have hne : ∀ ra, v = .ref ra → H5 ra = some (.tup ((two (fstC p q s0 s1 c)).map V.int)) → ra ≠ t.p_thread_of := fun ra _ e z => by
          obtain ⟨ps, e2, _⟩ := hT5
          rw [z, e2] at e; cases e
        obtain ⟨ra, rfl, hra⟩ := h4
        exact ⟨ra, rfl, s7 _ _ (s6 _ _ hra (hne ra rfl hra))⟩
      · rintro _ _ ⟨D, zs, H6, H7, ys, s6, t6, ky, nd, s7, nD7, rfl, rfl, hs⟩
        have ty := keysD_ints ky
        have nd' := nodup_ints nd
        obtain ⟨hperm, hpw⟩ := sort_rows hs
        have htwo : ∀ ns ∈ kvs.map (·.1), ∃ c, ns = two c := fun ns hns => by
          obtain ⟨pr, hpr, rfl⟩ := List.mem_map.mp hns
          obtain ⟨c, h1, _⟩ := hv5 pr hpr
          exact ⟨c, h1⟩
        have ecell := cells_ys ty htwo
        have hyc : ∀ y ∈ ys, TupT H6 y (two (cellAt H6 y)) ∧ cellAt H6 y ∈ cells ∧ metC p q s0 s1 (cellAt H6 y) := fun y hy => by
          obtain ⟨ns, hns, tyy⟩ := tups_at ty hy
          obtain ⟨pr, hpr, e1⟩ := List.mem_map.mp hns
          obtain ⟨c, h1, h2, h3, _⟩ := hv5 pr hpr
          have e2 : ns = two c := e1.symm.trans h1
          subst e2
          rw [cellAt_of tyy]
          exact ⟨tyy, h2, h3⟩
        have hnd : (ys.map (cellAt H6)).Nodup := by
          rw [List.nodup_iff_pairwise_ne]
          rw [← ecell, List.nodup_iff_pairwise_ne, List.pairwise_map] at nd'
          exact nd'.imp fun z e => z (by rw [e])
        have hDp : D ≠ t.p_thread_of := fun z => by
          obtain ⟨ps, e2, _⟩ := tab_same t6 s7
          rw [← z, nD7] at e2; cases e2
        have n5 : H5 D = none := by
          cases e : H5 D with
          | none => rfl
          | some o => rw [s7 _ _ (s6 _ _ e hDp)] at nD7; cases nD7
        have nDd : D ≠ d := fun z => by rw [z, hd5] at n5; cases n5
        have n3 : H3 D = none := by
          cases e : H3 D with
          | none => rfl
          | some o => rw [sb _ _ e nDd] at n5; cases n5
        refine k D zs (zs.map (cellAt H6)) _ (fun b o e n => ?_) (tab_same (tab_same t6 s7) (Same.upd nD7)) (same_none s03 n3) hDp upd_same (cells_map fun z hz => ?_) ⟨fun c => ⟨fun hcz => ?_, fun ⟨h1, h2⟩ => ?_⟩, thread_row p0 q0 s00 (fun z hz => (hyc z (hperm.mem_iff.mp hz)).2.2) ((hperm.map (cellAt H6)).nodup_iff.mpr hnd) hpw⟩
        · have e3 := s03 b o e
          have nb : b ≠ d := ne_of_none e hdn
          exact Same.upd nD7 _ _ (s7 _ _ (s6 _ _ (sb _ _ e3 nb) n))
        · exact ((hyc z (hperm.mem_iff.mp hz)).1.same s7).same (Same.upd nD7)
        · obtain ⟨z, hz, rfl⟩ := List.mem_map.mp hcz
          obtain ⟨_, h2, h3⟩ := hyc z (hperm.mem_iff.mp hz)
          exact ⟨h2, (metC_iff p0 q0 s00 s10 ap).mp h3⟩
        · have m := (metC_iff p0 q0 s00 s10 ap).mpr h2
          obtain ⟨v, hv, tv⟩ := cm2 c h1
          have ev : cellAt H2 v = c := cellAt_of (tv.same s02)
          have hva := hmem v hv (by rw [ev]; exact box_met p0 q0 s00 m)
          obtain ⟨j, hj, ej⟩ := List.getElem_of_mem hva
          have hin := ha5 j v hj (by rw [List.getElem?_eq_getElem hj, ej]) (by rw [ev]; exact m)
          rw [ev, ← ecell] at hin
          obtain ⟨c', hc', e'⟩ := List.mem_map.mp hin
          rw [two_inj e'] at hc'
          exact ((hperm.map (cellAt H6)).mem_iff).mpr hc'
def sp_l_hand (K : PySem.W.Frag) : Sp := fun vs H Q _ => ∃ (a : Addr) (ns : List Int), vs = [.ref a] ∧ SqL K H a (ns.map V.int) ∧ ∀ hd sc H', Same H H' → H hd = none → HandAt H' hd sc → Q (.ref hd) H'
theorem sc_l_hand : FnScope ["_law_script"] ["_law_script"] (defScope s_l_hand) := ⟨rfl, rfl, rfl, by decide +kernel, rfl, by decide +kernel, by decide +kernel⟩
theorem ok_l_hand (T : Txt K mg t) : FnOk P w K mg base CX0 1 t.f_l_hand t.d_l_hand ["_law_script"] (sp_l_hand K) := by
  refine T.l_hand.F.ok (k := 0) sc_l_hand (fun vs H Q E h => ?_) (fun cdv A outer s H vs Q E hr h => ?_)
  · obtain ⟨a, ns, rfl, _⟩ := h
    rfl
  · obtain ⟨a, ns, rfl, hS, k⟩ := h
    refine ⟨_, (@pss_one _ _ _ (@ps_ret _ _ _ _ (@pe_lst _ _ _ _ (@pa_cons _ _ _ _ _ (@pe_callTy _ _ _ _ _ _ _ _ _ call_list_of (by rfl) T.b_list PyProof.Rows.boot_list (@pa_cons _ _ _ _ _ (@pe_slice _ _ _ _ _ _ _ _ _ _ sl_list (pv 0) (@po_none _) (@po_some _ _ _ (@pe_int _ _ _ _))) (@pa_nil _) star_sub) (by decide) (by decide) (by rfl) (by rfl)) (@pa_cons _ _ _ _ _ (@pe_int _ _ _ _) (@pa_cons _ _ _ _ _ (@pe_int _ _ _ _) (@pa_cons _ _ _ _ _ (@pe_int _ _ _ _) (@pa_cons _ _ _ _ _ (@pe_int _ _ _ _) (@pa_cons _ _ _ _ _ (@pe_int _ _ _ _) (@pa_nil _) star_con) star_con) star_con) star_con) star_con) star_call)))), ?_⟩
    refine ⟨_, rfl, 63, rfl, a, _, rfl, hS, fun p hp => ?_⟩
    refine ⟨p, _, rfl, .inl (SqL.of upd_same), fun l hl => ⟨by show 6 ≤ sizeLine; decide, fun hd hh => ?_⟩⟩
    have s1 : Same H (upd H p (.lst (cutV (ns.map V.int) none (some 63)))) := Same.upd hp
    have s2 : Same (upd H p (.lst (cutV (ns.map V.int) none (some 63)))) _ := Same.upd (o := .lst (cutV (ns.map V.int) none (some 63))) hl
    have s3 := s1.trans (s2.trans (Same.upd (o := .lst [.ref l, .int 0, .int 0, .int 0, .int 20011, .int 40009]) hh))
    refine k hd l _ s3 (s1.free (s2.free hh)) ⟨(ns.drop (HT.sIx (ns.map V.int).length 0 none)).take (HT.sIx (ns.map V.int).length (ns.map V.int).length (some 63) - HT.sIx (ns.map V.int).length 0 none), 0, 0, 0, 20011, 40009, upd_same, ?_, by decide⟩
    rw [upd_ne (ne_of_none upd_same hh), upd_same, List.map_take, List.map_drop]
    rfl
def sp_l_next : Sp := fun vs H Q _ => ∃ hd sc, vs = [.ref hd] ∧ HandAt H hd sc ∧ ∀ (n : Int) H', HandAt H' hd sc → SameB hd H H' → Q (.int n) H'
theorem sc_l_next : FnScope ["_law_hand_here"] ["_law_hand_here"] (defScope s_l_next) := ⟨rfl, rfl, rfl, by decide +kernel, rfl, by decide +kernel, by decide +kernel⟩
theorem ok_l_next (T : Txt K mg t) : FnOk P w K mg base CX0 1 t.f_l_next t.d_l_next ["_law_hand_here"] sp_l_next := by
  refine T.l_next.F.ok (k := 0) sc_l_next (fun vs H Q E h => ?_) (fun cdv A outer s H vs Q E hr h => ?_)
  · obtain ⟨hd, sc, rfl, _⟩ := h
    rfl
  · obtain ⟨hd, sc, rfl, ⟨ns, i, b, c, p, q, h1, h2, h0⟩, k⟩ := h
    have nsc := HandAt.ne h1 h2
    refine ⟨_, (@pss_cons _ _ _ _ _ (@ps_asg _ _ _ _ _ _ (@pe_op _ _ _ _ _ _ _ _ op_modN (@pe_op _ _ _ _ _ _ _ _ op_mulB (@pe_ix _ _ _ _ _ _ _ ix_list (pv 0) (@pe_int _ _ _ _) (fun _ _ => rfl)) (@pe_int _ _ _ _)) (@pe_int _ _ _ _)) (@pg_sub _ _ _ _ _ _ _ (pv 0) (@pe_int _ _ _ _) set_list (by intro _; rfl)) (by rfl) (by rfl) (by rfl)) (@pss_cons _ _ _ _ _ (@ps_asg _ _ _ _ _ _ (@pe_op _ _ _ _ _ _ _ _ op_modN (@pe_op _ _ _ _ _ _ _ _ op_mulB (@pe_ix _ _ _ _ _ _ _ ix_list (pv 0) (@pe_int _ _ _ _) (fun _ _ => rfl)) (@pe_int _ _ _ _)) (@pe_int _ _ _ _)) (@pg_sub _ _ _ _ _ _ _ (pv 0) (@pe_int _ _ _ _) set_list (by intro _; rfl)) (by rfl) (by rfl) (by rfl)) (@pss_one _ _ _ (@ps_ret _ _ _ _ (@pe_op _ _ _ _ _ _ _ _ op_add (@pe_ix _ _ _ _ _ _ _ ix_list (pv 0) (@pe_int _ _ _ _) (fun _ _ => rfl)) (@pe_ix _ _ _ _ _ _ _ ix_list (pv 0) (@pe_int _ _ _ _) (fun _ _ => rfl))))))), ?_⟩
    refine st_put (pu_mod (pu_mul (pu_ixL (pu_v rfl) pu_c (SqL.of h1) rfl) pu_c (IntMulOk.of_right (by decide))) pu_c (by decide)) (pu_v rfl) pu_c h1 rfl ?_
    refine st_put (pu_mod (pu_mul (pu_ixL (pu_v rfl) pu_c (SqL.of upd_same) rfl) pu_c (IntMulOk.of_right (by decide))) pu_c (by decide)) (pu_v rfl) pu_c upd_same rfl ?_
    refine st_ret (pu_add (pu_ixL (pu_v rfl) pu_c (SqL.of upd_same) rfl) (pu_ixL (pu_v rfl) pu_c (SqL.of upd_same) rfl)) ?_
    exact k _ _ ⟨ns, i, b, c, _, _, upd_same, by rw [upd_ne nsc, upd_ne nsc]; exact h2, h0⟩ (SameB.upd.trans SameB.upd)
def sp_l_take : Sp := fun vs H Q _ => ∃ hd sc, vs = [.ref hd] ∧ HandAt H hd sc ∧ ∀ H', HandAt H' hd sc → SameB hd H H' → Q .non H'
theorem sc_l_take : FnScope ["_law_hand_here", "_law_cell"] ["_law_hand_here"] (defScope s_l_take) := ⟨rfl, rfl, rfl, by decide +kernel, rfl, by decide +kernel, by decide +kernel⟩
theorem ok_l_take (T : Txt K mg t) : FnOk P w K mg base CX0 2 t.f_l_take t.d_l_take ["_law_hand_here"] sp_l_take := by
  refine T.l_take.F.ok (k := 1) sc_l_take (fun vs H Q E h => ?_) (fun cdv A outer s H vs Q E hr h => ?_)
  · obtain ⟨hd, sc, rfl, _⟩ := h
    rfl
  · obtain ⟨hd, sc, rfl, ⟨ns, i, b, c, p, q, h1, h2, h0⟩, k⟩ := h
    have nsc := HandAt.ne h1 h2
    refine ⟨_, (@pss_cons _ _ _ _ _ (@ps_set _ _ 1 _ _ _ _ sc_l_take.nd rfl (Or.inl rfl) (@pe_int _ _ _ _) (by rfl) (by first | exact .inl rfl | exact .inr rfl | assumption)) (@pss_cons _ _ _ _ _ (@ps_if _ _ _ _ _ _ _ _ (@pt_cmpR _ _ _ _ _ _ _ _ op_lt (@pe_ix _ _ _ _ _ _ _ ix_list (pv 0) (@pe_int _ _ _ _) (fun _ _ => rfl)) (@pe_callB _ _ _ _ _ _ _ _ _ call_len_seq (by rfl) T.b_len PySem.boot_len (@pa_cons _ _ _ _ _ (@pe_ix _ _ _ _ _ _ _ ix_list (pv 0) (@pe_int _ _ _ _) (fun _ _ => rfl)) (@pa_nil _) star_sub) (by decide) (by decide) (by rfl) (by rfl)) (nomark _)) (@pss_one _ _ _ (@ps_set _ _ 1 _ _ _ _ sc_l_take.nd rfl (Or.inl rfl) (@pe_callB _ _ _ _ _ _ _ _ _ call_abs (by rfl) T.b_abs PyProof.Rows.boot_abs (@pa_cons _ _ _ _ _ (@pe_ix _ _ _ _ _ _ _ ix_list (@pe_ix _ _ _ _ _ _ _ ix_list (pv 0) (@pe_int _ _ _ _) (fun _ _ => rfl)) (@pe_ix _ _ _ _ _ _ _ ix_list (pv 0) (@pe_int _ _ _ _) (fun _ _ => rfl)) (fun _ _ => rfl)) (@pa_nil _) star_sub) (by decide) (by decide) (by rfl) (by rfl)) (by rfl) (by first | exact .inl rfl | exact .inr rfl | assumption))) (@pss_nil _)) (@pss_cons _ _ _ _ _ (@ps_augS _ _ _ _ _ _ _ _ _ _ _ _ _ (pv 0) (@pe_int _ _ _ _) get_list (@pe_int _ _ _ _) ip_add set_list (by intros; rfl)) (@pss_cons _ _ _ _ _ (@ps_if _ _ _ _ _ _ _ _ (@pt_cmpR _ _ _ _ _ _ _ _ op_ge (pv 1) (@pe_op _ _ _ _ _ _ _ _ op_pow (@pe_int _ _ _ _) (@pe_int _ _ _ _)) (nomark _)) (@pss_one _ _ _ (@ps_asg _ _ _ _ _ _ (pv 1) (@pg_sub _ _ _ _ _ _ _ (pv 0) (@pe_int _ _ _ _) set_list (by intro _; rfl)) (by rfl) (by rfl) (by rfl))) (@pss_one _ _ _ (@ps_asg _ _ _ _ _ _ (@pe_int _ _ _ _) (@pg_sub _ _ _ _ _ _ _ (pv 0) (@pe_int _ _ _ _) set_list (by intro _; rfl)) (by rfl) (by rfl) (by rfl)))) (@pss_cons _ _ _ _ _ (@ps_asg _ _ _ _ _ _ (@pe_op _ _ _ _ _ _ _ _ op_add (@pe_op _ _ _ _ _ _ _ _ op_modN (@pe_op _ _ _ _ _ _ _ _ op_add (@pe_ix _ _ _ _ _ _ _ ix_list (pv 0) (@pe_int _ _ _ _) (fun _ _ => rfl)) (@pe_op _ _ _ _ _ _ _ _ op_modN (pv 1) (@pe_int _ _ _ _))) (@pe_int _ _ _ _)) (@pe_int _ _ _ _)) (@pg_sub _ _ _ _ _ _ _ (pv 0) (@pe_int _ _ _ _) set_list (by intro _; rfl)) (by rfl) (by rfl) (by rfl)) (@pss_cons _ _ _ _ _ (@ps_asg _ _ _ _ _ _ (@pe_op _ _ _ _ _ _ _ _ op_add (@pe_op _ _ _ _ _ _ _ _ op_modN (@pe_op _ _ _ _ _ _ _ _ op_add (@pe_op _ _ _ _ _ _ _ _ op_mulB (@pe_ix _ _ _ _ _ _ _ ix_list (pv 0) (@pe_int _ _ _ _) (fun _ _ => rfl)) (@pe_int _ _ _ _)) (@pe_op _ _ _ _ _ _ _ _ op_modN (pv 1) (@pe_int _ _ _ _))) (@pe_int _ _ _ _)) (@pe_int _ _ _ _)) (@pg_sub _ _ _ _ _ _ _ (pv 0) (@pe_int _ _ _ _) set_list (by intro _; rfl)) (by rfl) (by rfl) (by rfl)) (@pss_cons _ _ _ _ _ (@ps_expr _ _ _ _ (@pe_fn _ _ _ _ _ _ _ _ _ _ _ _ _ _ T.l_next (ok_l_next T) hr (by decide) (@pa_cons _ _ _ _ _ (pv 0) (@pa_nil _) star_name) (by rfl) (by decide) (by rfl) (by rfl)) (by rfl)) (@pss_one _ _ _ (@ps_expr _ _ _ _ (@pe_fn _ _ _ _ _ _ _ _ _ _ _ _ _ _ T.l_next (ok_l_next T) hr (by decide) (@pa_cons _ _ _ _ _ (pv 0) (@pa_nil _) star_name) (by rfl) (by decide) (by rfl) (by rfl)) (by rfl)))))))))), ?_⟩
    refine st_set pu_c ?_
    refine st_ifSet (R := fun v H' => H = H' ∧ ∃ cell : Int, v = .int cell) (v0 := .int 0) (pt_t (pu_lt (pu_ixL (pu_v rfl) pu_c (SqL.of h1) rfl) (pu_lenL (pa_c (pu_ixL (pu_v rfl) pu_c (SqL.of h1) rfl) pa_n) (SqL.of h2)))) (fun e => ?_) rfl (fun _ => ⟨rfl, 0, rfl⟩) ?_
    · have e' : i < ((ns.map V.int).length : Int) := by simpa using e
      rw [List.length_map] at e'
      obtain ⟨m, hm⟩ : ∃ m, ns[i.toNat]? = some m := ⟨_, List.getElem?_eq_getElem (by omega)⟩
      have hat : atI (ns.map V.int) i = some (.int m) := by
        have := atI_nat (xs := ns.map V.int) (j := i.toNat) (v := .int m) (by rw [List.getElem?_map, hm]; rfl)
        rwa [show ((i.toNat : Nat) : Int) = i by omega] at this
      exact (pu_abs (pa_c (pu_ixL (pu_ixL (pu_v rfl) pu_c (SqL.of h1) rfl) (pu_ixL (pu_v rfl) pu_c (SqL.of h1) rfl) (SqL.of h2) hat) pa_n)).gv' ⟨rfl, _, rfl⟩
    rintro v H' ⟨rfl, cell, rfl⟩
    refine st_augI (pu_v rfl) pu_c (by decide) h1 rfl pu_c rfl ?_
    refine st_if (pt_t (pu_ge (pu_v rfl) (pu_pow pu_c pu_c ⟨by decide, by decide, by decide⟩))) (fun _ => st_put1 (pu_v rfl) (pu_v rfl) pu_c upd_same rfl ?_) (fun _ => st_put1 pu_c (pu_v rfl) pu_c upd_same rfl ?_)
    all_goals
      refine st_put (pu_add (pu_mod (pu_add (pu_ixL (pu_v rfl) pu_c (SqL.of upd_same) rfl) (pu_mod (pu_v rfl) pu_c (by decide))) pu_c (by decide)) pu_c) (pu_v rfl) pu_c upd_same rfl ?_
      refine st_put (pu_add (pu_mod (pu_add (pu_mul (pu_ixL (pu_v rfl) pu_c (SqL.of upd_same) rfl) pu_c (IntMulOk.of_right (by decide))) (pu_mod (pu_v rfl) pu_c (by decide))) pu_c (by decide)) pu_c) (pu_v rfl) pu_c upd_same rfl ?_
      refine st_exprG (R := fun _ H' => HandAt H' hd sc ∧ SameB hd H H') (gv_call (pa_c (pu_v rfl) pa_n) fun Q f => ⟨hd, sc, rfl, ⟨ns, _, _, _, _, _, upd_same, by rw [upd_ne nsc, upd_ne nsc, upd_ne nsc, upd_ne nsc]; exact h2, (by omega : 0 ≤ i + 1)⟩, fun n H' a s => f _ _ ⟨a, ((SameB.upd.trans SameB.upd).trans (SameB.upd.trans SameB.upd)).trans s⟩⟩) ?_
      rintro _ H1 ⟨a1, s1⟩
      refine st_exprG1 (R := fun _ H' => HandAt H' hd sc ∧ SameB hd H H') (gv_call (pa_c (pu_v rfl) pa_n) fun Q f => ⟨hd, sc, rfl, a1, fun n H' a s => f _ _ ⟨a, s1.trans s⟩⟩) ?_
      rintro _ H2 ⟨a2, s2⟩
      exact k _ a2 s2
def sp_l_draw : Sp := fun vs H Q _ => ∃ hd sc m, vs = [.ref hd, .int m] ∧ HandAt H hd sc ∧ 0 < m ∧ Bd 9000 m ∧ ∀ (n : Int) H', 0 ≤ n → n < m → HandAt H' hd sc → SameB hd H H' → Q (.int n) H'
/-- draw(hand, m), m known -/
theorem gv_draw {σ : L2.St} {H : Hp} {hd sc : Addr} {t : TA} {m : Int} (hh : HandAt H hd sc) (ha : PuA t σ H [.ref hd, .int m]) (h0 : 0 < m) (hb : Bd 9000 m) : Gv (tCall sp_l_draw [] E0 t) σ H (fun v H' => (∃ n : Int, v = .int n ∧ 0 ≤ n ∧ n < m) ∧ HandAt H' hd sc ∧ SameB hd H H') :=
  gv_call ha fun Q f => ⟨hd, sc, m, rfl, hh, h0, hb, fun n H' z0 z1 a s => f _ _ ⟨⟨n, rfl, z0, z1⟩, a, s⟩⟩
theorem sc_l_draw : FnScope ["_law_hand_here", "_law_many", "_law_got", "_law_value", "_law_size"] ["_law_hand_here", "_law_many"] (defScope s_l_draw) := ⟨rfl, rfl, rfl, by decide +kernel, rfl, by decide +kernel, by decide +kernel⟩
theorem ok_l_draw (T : Txt K mg t) : FnOk P w K mg base CX0 3 t.f_l_draw t.d_l_draw ["_law_hand_here", "_law_many"] sp_l_draw := by
  refine T.l_draw.F.ok (k := 2) sc_l_draw (fun vs H Q E h => ?_) (fun cdv A outer s H vs Q E hr h => ?_)
  · obtain ⟨hd, sc, m, rfl, _⟩ := h
    rfl
  · obtain ⟨hd, sc, m, rfl, hh, hm, hB, k⟩ := h
    refine ⟨_, (@pss_cons _ _ _ _ _ (@ps_if _ _ _ _ _ _ _ _ (PW.pt (@pw_and _ _ _ _ _ _ _ (@pt_cmpR _ _ _ _ _ _ _ _ op_eq (@pe_ix _ _ _ _ _ _ _ ix_list (pv 0) (@pe_int _ _ _ _) (fun _ _ => rfl)) (@pe_int _ _ _ _) (nomark _)) (@pw_and1 _ _ _ _ (@pt_cmpR _ _ _ _ _ _ _ _ op_eq (@pe_ix _ _ _ _ _ _ _ ix_list (pv 0) (@pe_int _ _ _ _) (fun _ _ => rfl)) (@pe_int _ _ _ _) (nomark _))))) (@pss_one _ _ _ (@ps_expr _ _ _ _ (@pe_fn _ _ _ _ _ _ _ _ _ _ _ _ _ _ T.l_take (ok_l_take T) hr (by decide) (@pa_cons _ _ _ _ _ (pv 0) (@pa_nil _) star_name) (by rfl) (by decide) (by rfl) (by rfl)) (by rfl))) (@pss_nil _)) (@pss_cons _ _ _ _ _ (@ps_if _ _ _ _ _ _ _ _ (@pt_cmpR _ _ _ _ _ _ _ _ op_gt (@pe_ix _ _ _ _ _ _ _ ix_list (pv 0) (@pe_int _ _ _ _) (fun _ _ => rfl)) (@pe_int _ _ _ _) (nomark _)) (@pss_cons _ _ _ _ _ (@ps_set _ _ 2 _ _ _ _ sc_l_draw.nd rfl (Or.inl rfl) (@pe_op _ _ _ _ _ _ _ _ op_modN (@pe_ix _ _ _ _ _ _ _ ix_list (pv 0) (@pe_int _ _ _ _) (fun _ _ => rfl)) (pv 1)) (by rfl) (by first | exact .inl rfl | exact .inr rfl | assumption)) (@pss_cons _ _ _ _ _ (@ps_asg _ _ _ _ _ _ (@pe_op _ _ _ _ _ _ _ _ op_fdivB (@pe_ix _ _ _ _ _ _ _ ix_list (pv 0) (@pe_int _ _ _ _) (fun _ _ => rfl)) (pv 1)) (@pg_sub _ _ _ _ _ _ _ (pv 0) (@pe_int _ _ _ _) set_list (by intro _; rfl)) (by rfl) (by rfl) (by rfl)) (@pss_one _ _ _ (@ps_ret _ _ _ _ (pv 2))))) (@pss_nil _)) (@pss_cons _ _ _ _ _ (@ps_augS _ _ _ _ _ _ _ _ _ _ _ _ _ (pv 0) (@pe_int _ _ _ _) get_list (@pe_int _ _ _ _) ip_sub set_list (by intros; rfl)) (@pss_cons _ _ _ _ _ (@ps_set _ _ 3 _ _ _ _ sc_l_draw.nd rfl (Or.inl rfl) (@pe_fn _ _ _ _ _ _ _ _ _ _ _ _ _ _ T.l_next (ok_l_next T) hr (by decide) (@pa_cons _ _ _ _ _ (pv 0) (@pa_nil _) star_name) (by rfl) (by decide) (by rfl) (by rfl)) (by rfl) (by first | exact .inl rfl | exact .inr rfl | assumption)) (@pss_cons _ _ _ _ _ (@ps_set _ _ 4 _ _ _ _ sc_l_draw.nd rfl (Or.inl rfl) (@pe_int _ _ _ _) (by rfl) (by first | exact .inl rfl | exact .inr rfl | assumption)) (@pss_cons _ _ _ _ _ (@ps_while _ _ _ _ _ _ PassesOwn.never (@pt_cmpR _ _ _ _ _ _ _ _ op_lt (pv 4) (pv 1) (nomark _)) (@pss_cons _ _ _ _ _ (@ps_set _ _ 3 _ _ _ _ sc_l_draw.nd rfl (Or.inl rfl) (@pe_op _ _ _ _ _ _ _ _ op_add (@pe_op _ _ _ _ _ _ _ _ op_mulB (pv 3) (@pe_int _ _ _ _)) (@pe_fn _ _ _ _ _ _ _ _ _ _ _ _ _ _ T.l_next (ok_l_next T) hr (by decide) (@pa_cons _ _ _ _ _ (pv 0) (@pa_nil _) star_name) (by rfl) (by decide) (by rfl) (by rfl))) (by rfl) (by first | exact .inl rfl | exact .inr rfl | assumption)) (@pss_one _ _ _ (@ps_set _ _ 4 _ _ _ _ sc_l_draw.nd rfl (Or.inl rfl) (@pe_op _ _ _ _ _ _ _ _ op_mulB (pv 4) (@pe_int _ _ _ _)) (by rfl) (by first | exact .inl rfl | exact .inr rfl | assumption))))) (@pss_one _ _ _ (@ps_ret _ _ _ _ (@pe_op _ _ _ _ _ _ _ _ op_modN (pv 3) (pv 1)))))))))), ?_⟩
    refine (show ∀ (H1 : Hp) (rest : TS) (D : Ends) (σ : L2.St) (tc : TT) (te : TE), (∃ b, PuT tc σ H b ∧ (b = true → Gv te σ H (fun _ H' => HandAt H' hd sc ∧ SameB hd H H'))) → (∀ H', HandAt H' hd sc → SameB hd H H' → rest D σ H') → tSeq (tIfS tc (tDrop te) tNext) rest D σ H from fun H1 rest D σ tc te ⟨b, hc, he⟩ q => st_if hc (fun e => st_exprG1 (he e) fun v H' r => q H' r.1 r.2) fun _ => q H hh (SameB.refl _ _)) H _ _ _ _ _ ?_ ?_
    · obtain ⟨ns, i, b, c, p, q, h1, h2, h0⟩ := id hh
      exact ⟨_, pt_and (pt_t (pu_eqI (pu_ixL (pu_v rfl) pu_c (SqL.of h1) rfl) pu_c)) fun _ => pt_t (pu_eqI (pu_ixL (pu_v rfl) pu_c (SqL.of h1) rfl) pu_c), fun _ => gv_call (pa_c (pu_v rfl) pa_n) fun Q f => ⟨hd, sc, rfl, hh, fun H' a s => f _ _ ⟨a, s⟩⟩⟩
    intro H1 hh1 s1
    obtain ⟨ns, i, b, c, p, q, h1, h2, h0⟩ := id hh1
    have nsc := HandAt.ne h1 h2
    refine st_if (pt_t (pu_gt (pu_ixL (pu_v rfl) pu_c (SqL.of h1) rfl) pu_c)) (fun _ => ?_) fun _ => ?_
    · refine st_set (pu_mod (pu_ixL (pu_v rfl) pu_c (SqL.of h1) rfl) (pu_v rfl) (by omega)) ?_
      refine st_put (pu_fdiv (pu_ixL (pu_v rfl) pu_c (SqL.of h1) rfl) (pu_v rfl) ⟨by omega, hB⟩) (pu_v rfl) pu_c h1 rfl ?_
      refine st_ret (pu_v rfl) ?_
      have hl := fmod_lt (x := b) hm
      exact k _ _ hl.1 hl.2 ⟨ns, i, _, c, p, q, upd_same, by rw [upd_ne nsc]; exact h2, h0⟩ (s1.trans SameB.upd)
    · refine st_augI (pu_v rfl) pu_c (by decide) h1 rfl pu_c rfl ?_
      have hh2 : HandAt (upd H1 hd (.lst [.ref sc, .int i, .int b, .int (c - 1), .int p, .int q])) hd sc := ⟨ns, i, b, c - 1, p, q, upd_same, by rw [upd_ne nsc]; exact h2, h0⟩
      refine st_setG (R := fun v H' => (∃ n : Int, v = .int n) ∧ HandAt H' hd sc ∧ SameB hd H H') (gv_call (pa_c (pu_v rfl) pa_n) fun Q f => ⟨hd, sc, rfl, hh2, fun n H' a s => f _ _ ⟨⟨n, rfl⟩, a, s1.trans (SameB.upd.trans s)⟩⟩) ?_
      rintro _ H3 ⟨⟨n, rfl⟩, hh3, s3⟩
      refine st_set pu_c ?_
      refine st_while (fun σ H' => HandAt H' hd sc ∧ SameB hd H H' ∧ ∃ (x y : Int) (r : Option V), σ = [some (.ref hd), some (.int m), r, some (.int x), some (.int y)] ∧ 0 < y) (fun σ _ => match σ with | [_, _, _, _, some (.int y)] => (m - y).toNat | _ => 0)
        ⟨hh3, s3, n, 4294967296, _, rfl, by decide⟩ ?_
      rintro σ H4 ⟨hh4, s4, x, y, r, rfl, hy⟩
      refine ⟨_, pt_t (pu_lt (pu_v rfl) (pu_v rfl)), fun e => ?_, fun e => ?_⟩
      · have e' : y < m := by simpa using e
        refine st_setG (R := fun v H' => (∃ n : Int, v = .int n) ∧ HandAt H' hd sc ∧ SameB hd H H') (fun Q f => pu_mul (pu_v rfl) pu_c (IntMulOk.of_right (by decide)) _ ?_) ?_
        · exact gv_call (sp := sp_l_next) (E := E0) (R := fun v H' => (∃ n : Int, v = .int n) ∧ HandAt H' hd sc ∧ SameB hd H H') (pa_c (pu_v rfl) pa_n) (fun Q f => ⟨hd, sc, rfl, hh4, fun n H' a s => f _ _ ⟨⟨n, rfl⟩, a, s4.trans s⟩⟩) _ fun v H' ⟨⟨n, e⟩, a, s⟩ => by
            subst e
            exact ⟨_, n, rfl, rfl, f _ _ ⟨⟨_, rfl⟩, a, s⟩⟩
        rintro _ H5 ⟨⟨z, rfl⟩, hh5, s5⟩
        refine st_set1 (pu_mul (pu_v rfl) pu_c (IntMulOk.of_right (by decide))) ?_
        exact ⟨⟨hh5, s5, z, y * 4294967296, r, rfl, by omega⟩, by show (m - y * 4294967296).toNat < (m - y).toNat; omega⟩
      · refine st_ret (pu_mod (pu_v rfl) (pu_v rfl) (by omega)) ?_
        have hl := fmod_lt (x := x) hm
        exact k _ _ hl.1 hl.2 hh4 s4
def sp_l_divisor : Sp := fun vs H Q _ => ∃ a b : Int, vs = [.int a, .int b] ∧ Q (.int (Int.gcd a b)) H
theorem sc_l_divisor : FnScope ["_law_one", "_law_other"] ["_law_one", "_law_other"] (defScope s_l_divisor) := ⟨rfl, rfl, rfl, by decide +kernel, rfl, by decide +kernel, by decide +kernel⟩
theorem ok_l_divisor (T : Txt K mg t) : FnOk P w K mg base CX0 1 t.f_l_divisor t.d_l_divisor ["_law_one", "_law_other"] sp_l_divisor := by
  refine T.l_divisor.F.ok (k := 0) sc_l_divisor (fun vs H Q E h => ?_) (fun cdv A outer s H vs Q E hr h => ?_)
  · obtain ⟨a, b, rfl, _⟩ := h
    rfl
  · obtain ⟨a, b, rfl, k⟩ := h
    refine ⟨_, (@pss_cons _ _ _ _ _ (@ps_set _ _ 0 _ _ _ _ sc_l_divisor.nd rfl (Or.inl rfl) (@pe_callB _ _ _ _ _ _ _ _ _ call_abs (by rfl) T.b_abs PyProof.Rows.boot_abs (@pa_cons _ _ _ _ _ (pv 0) (@pa_nil _) star_name) (by decide) (by decide) (by rfl) (by rfl)) (by rfl) (by first | exact .inl rfl | exact .inr rfl | assumption)) (@pss_cons _ _ _ _ _ (@ps_set _ _ 1 _ _ _ _ sc_l_divisor.nd rfl (Or.inl rfl) (@pe_callB _ _ _ _ _ _ _ _ _ call_abs (by rfl) T.b_abs PyProof.Rows.boot_abs (@pa_cons _ _ _ _ _ (pv 1) (@pa_nil _) star_name) (by decide) (by decide) (by rfl) (by rfl)) (by rfl) (by first | exact .inl rfl | exact .inr rfl | assumption)) (@pss_cons _ _ _ _ _ (@ps_while _ _ _ _ _ _ PassesOwn.never (@pt_cmpR _ _ _ _ _ _ _ _ op_gt (pv 1) (@pe_int _ _ _ _) (nomark _)) (@pss_one _ _ _ (@ps_par _ _ 0 1 _ _ _ _ _ _ _ _ _ _ _ rfl sc_l_divisor.nd rfl rfl (by decide) rfl rfl (@pa_cons _ _ _ _ _ (pv 1) (@pa_cons _ _ _ _ _ (@pe_op _ _ _ _ _ _ _ _ op_modN (pv 0) (pv 1)) (@pa_nil _) star_bin) star_name) (by rfl) (by rfl)))) (@pss_one _ _ _ (@ps_ret _ _ _ _ (pv 0)))))), ?_⟩
    refine st_set (pu_abs (pa_c (pu_v rfl) pa_n)) ?_
    refine st_set (pu_abs (pa_c (pu_v rfl) pa_n)) ?_
    refine st_while (fun σ H' => H' = H ∧ ∃ (x y : Int), σ = [some (.int x), some (.int y)] ∧ 0 ≤ x ∧ 0 ≤ y ∧ Int.gcd x y = Int.gcd a b) (fun σ _ => match σ with | [_, some (.int y)] => y.toNat | _ => 0)
      ⟨rfl, a.natAbs, b.natAbs, rfl, by omega, by omega, rfl⟩ ?_
    rintro σ H' ⟨rfl, x, y, rfl, hx, hy, hg⟩
    refine ⟨_, pt_t (pu_gt (pu_v rfl) pu_c), fun e => ?_, fun e => ?_⟩
    · have e' : 0 < y := by simpa using e
      have hm := fmod_lt (x := x) e'
      refine pa_c (pu_v rfl) (pa_c (pu_mod (pu_v rfl) (pu_v rfl) (by omega)) pa_n) _ ?_
      exact ⟨_, _, rfl, ⟨rfl, y, x.fmod y, rfl, hy, hm.1, by rw [gcd_step hx hy]; exact hg⟩, by show (x.fmod y).toNat < y.toNat; omega⟩
    · have e' : ¬ 0 < y := by simpa using e
      have e'' : y = 0 := by omega
      subst e''
      refine st_ret (pu_v rfl) ?_
      rw [← hg, gcd_zero x hx] at k
      exact k
def sp_l_point : Sp := fun vs H Q _ => ∃ a b c : Int, vs = [.int a, .int b, .int c] ∧ 0 < c ∧ Bd 9000 c ∧ ∀ v H' r, Same H H' → AtP H' v r → Is3 a b c r → Q v H'
theorem gv_point {σ : L2.St} {H : Hp} {t : TA} {a b c : Int} (ha : PuA t σ H [.int a, .int b, .int c]) (hc : 0 < c) (hb : Bd 9000 c) : Gv (tCall sp_l_point [] E0 t) σ H (fun v H' => Same H H' ∧ ∃ r, AtP H' v r ∧ Is3 a b c r) :=
  gv_call ha fun Q f => ⟨a, b, c, rfl, hc, hb, fun v H' r s t i => f _ _ ⟨s, r, t, i⟩⟩
theorem sc_l_point : FnScope ["_law_a", "_law_b", "_law_c", "_law_d"] ["_law_a", "_law_b", "_law_c"] (defScope s_l_point) := ⟨rfl, rfl, rfl, by decide +kernel, rfl, by decide +kernel, by decide +kernel⟩
theorem ok_l_point (T : Txt K mg t) : FnOk P w K mg base CX0 2 t.f_l_point t.d_l_point ["_law_a", "_law_b", "_law_c"] sp_l_point := by
  refine T.l_point.F.ok (k := 1) sc_l_point (fun vs H Q E h => ?_) (fun cdv A outer s H vs Q E hr h => ?_)
  · obtain ⟨a, b, c, rfl, _⟩ := h
    rfl
  · obtain ⟨a, b, c, rfl, hc, hB, k⟩ := h
    refine ⟨_, (@pss_cons _ _ _ _ _ (@ps_set _ _ 3 _ _ _ _ sc_l_point.nd rfl (Or.inl rfl) (@pe_fn _ _ _ _ _ _ _ _ _ _ _ _ _ _ T.l_divisor (ok_l_divisor T) hr (by decide) (@pa_cons _ _ _ _ _ (@pe_fn _ _ _ _ _ _ _ _ _ _ _ _ _ _ T.l_divisor (ok_l_divisor T) hr (by decide) (@pa_cons _ _ _ _ _ (pv 2) (@pa_cons _ _ _ _ _ (pv 0) (@pa_nil _) star_name) star_name) (by rfl) (by decide) (by rfl) (by rfl)) (@pa_cons _ _ _ _ _ (pv 1) (@pa_nil _) star_name) star_call) (by rfl) (by decide) (by rfl) (by rfl)) (by rfl) (by first | exact .inl rfl | exact .inr rfl | assumption)) (@pss_one _ _ _ (@ps_ret _ _ _ _ (@pe_tup _ _ _ _ _ (@pa_cons _ _ _ _ _ (@pe_op _ _ _ _ _ _ _ _ op_fdivB (pv 0) (pv 3)) (@pa_cons _ _ _ _ _ (@pe_op _ _ _ _ _ _ _ _ op_fdivB (pv 1) (pv 3)) (@pa_cons _ _ _ _ _ (@pe_op _ _ _ _ _ _ _ _ op_fdivB (pv 2) (pv 3)) (@pa_nil _) star_bin) star_bin) star_bin))))), ?_⟩
    obtain ⟨hi, hd⟩ := pt_has (a := a) (b := b) hc
    have hdB : Bd 9000 (Int.gcd (Int.gcd c a) b : Int) := by
      refine hB.le ?_
      have : (Int.gcd (Int.gcd c a) b : Nat) ≤ c.natAbs := by
        refine Nat.le_of_dvd (by omega) ?_
        refine Nat.dvd_trans (Int.gcd_dvd_natAbs_left _ _) ?_
        rw [Int.natAbs_natCast]
        exact Int.gcd_dvd_natAbs_left c a
      exact this
    refine st_set (pu_call (pa_c (pu_call (pa_c (pu_v rfl) (pa_c (pu_v rfl) pa_n)) (fun Q q => ⟨c, a, rfl, q⟩)) (pa_c (pu_v rfl) pa_n)) (fun Q q => ⟨_, b, rfl, q⟩)) ?_
    refine st_retG (gv_tup (pa_c (pu_fdiv (pu_v rfl) (pu_v rfl) ⟨by omega, hdB⟩) (pa_c (pu_fdiv (pu_v rfl) (pu_v rfl) ⟨by omega, hdB⟩) (pa_c (pu_fdiv (pu_v rfl) (pu_v rfl) ⟨by omega, hdB⟩) pa_n))) (by show 3 ≤ sizeLine; decide)) ?_
    rintro _ _ ⟨p, hp, rfl, rfl⟩
    exact k _ _ _ (Same.upd hp) (TupT.of upd_same) hi
def sp_l_ahead : Sp := fun vs H Q _ => ∃ v w p q, vs = [v, w] ∧ AtP H v p ∧ AtP H w q ∧ Sz 4000 p ∧ Sz 4000 q ∧ Q (.bl (ahd p q)) H
theorem sc_l_ahead : FnScope ["_law_p", "_law_q"] ["_law_p", "_law_q"] (defScope s_l_ahead) := ⟨rfl, rfl, rfl, by decide +kernel, rfl, by decide +kernel, by decide +kernel⟩
theorem ok_l_ahead (T : Txt K mg t) : FnOk P w K mg base CX0 1 t.f_l_ahead t.d_l_ahead ["_law_p", "_law_q"] sp_l_ahead := by
  refine T.l_ahead.F.ok (k := 0) sc_l_ahead (fun vs H Q E h => ?_) (fun cdv A outer s H vs Q E hr h => ?_)
  · obtain ⟨v, w, p, q, rfl, _⟩ := h
    rfl
  · obtain ⟨v, w, p, q, rfl, ⟨a, rfl, ha⟩, ⟨b, rfl, hb⟩, zp, zq, k⟩ := h
    refine ⟨_, (@pss_cons _ _ _ _ _ (@ps_if _ _ _ _ _ _ _ _ (@pt_cmpR _ _ _ _ _ _ _ _ op_ne (@pe_op _ _ _ _ _ _ _ _ op_mulB (@pe_ix _ _ _ _ _ _ _ ix_tup (pv 0) (@pe_int _ _ _ _) (fun _ _ => rfl)) (@pe_ix _ _ _ _ _ _ _ ix_tup (pv 1) (@pe_int _ _ _ _) (fun _ _ => rfl))) (@pe_op _ _ _ _ _ _ _ _ op_mulB (@pe_ix _ _ _ _ _ _ _ ix_tup (pv 1) (@pe_int _ _ _ _) (fun _ _ => rfl)) (@pe_ix _ _ _ _ _ _ _ ix_tup (pv 0) (@pe_int _ _ _ _) (fun _ _ => rfl))) (nomark _)) (@pss_one _ _ _ (@ps_ret _ _ _ _ (@pe_cmpR _ _ _ _ _ _ _ _ op_lt (@pe_op _ _ _ _ _ _ _ _ op_mulB (@pe_ix _ _ _ _ _ _ _ ix_tup (pv 0) (@pe_int _ _ _ _) (fun _ _ => rfl)) (@pe_ix _ _ _ _ _ _ _ ix_tup (pv 1) (@pe_int _ _ _ _) (fun _ _ => rfl))) (@pe_op _ _ _ _ _ _ _ _ op_mulB (@pe_ix _ _ _ _ _ _ _ ix_tup (pv 1) (@pe_int _ _ _ _) (fun _ _ => rfl)) (@pe_ix _ _ _ _ _ _ _ ix_tup (pv 0) (@pe_int _ _ _ _) (fun _ _ => rfl))) (nomark _)))) (@pss_nil _)) (@pss_one _ _ _ (@ps_ret _ _ _ _ (@pe_cmpR _ _ _ _ _ _ _ _ op_lt (@pe_op _ _ _ _ _ _ _ _ op_mulB (@pe_ix _ _ _ _ _ _ _ ix_tup (pv 0) (@pe_int _ _ _ _) (fun _ _ => rfl)) (@pe_ix _ _ _ _ _ _ _ ix_tup (pv 1) (@pe_int _ _ _ _) (fun _ _ => rfl))) (@pe_op _ _ _ _ _ _ _ _ op_mulB (@pe_ix _ _ _ _ _ _ _ ix_tup (pv 1) (@pe_int _ _ _ _) (fun _ _ => rfl)) (@pe_ix _ _ _ _ _ _ _ ix_tup (pv 0) (@pe_int _ _ _ _) (fun _ _ => rfl))) (nomark _))))), ?_⟩
    refine st_ifN (pt_t (pu_neI (pu_mul (pu_ixT (pu_v rfl) pu_c (SqT.of (ha)) rfl) (pu_ixT (pu_v rfl) pu_c (SqT.of (hb)) rfl) (mulOk_of (zp.x) (zq.z) (by decide))) (pu_mul (pu_ixT (pu_v rfl) pu_c (SqT.of (hb)) rfl) (pu_ixT (pu_v rfl) pu_c (SqT.of (ha)) rfl) (mulOk_of (zq.x) (zp.z) (by decide))))) (fun e => st_ret (pu_lt (pu_mul (pu_ixT (pu_v rfl) pu_c (SqT.of (ha)) rfl) (pu_ixT (pu_v rfl) pu_c (SqT.of (hb)) rfl) (mulOk_of (zp.x) (zq.z) (by decide))) (pu_mul (pu_ixT (pu_v rfl) pu_c (SqT.of (hb)) rfl) (pu_ixT (pu_v rfl) pu_c (SqT.of (ha)) rfl) (mulOk_of (zq.x) (zp.z) (by decide)))) ?_) (fun e => st_ret (pu_lt (pu_mul (pu_ixT (pu_v rfl) pu_c (SqT.of (ha)) rfl) (pu_ixT (pu_v rfl) pu_c (SqT.of (hb)) rfl) (mulOk_of (zp.y) (zq.z) (by decide))) (pu_mul (pu_ixT (pu_v rfl) pu_c (SqT.of (hb)) rfl) (pu_ixT (pu_v rfl) pu_c (SqT.of (ha)) rfl) (mulOk_of (zq.y) (zp.z) (by decide)))) ?_)
    · have e' : ¬ p.x * q.z = q.x * p.z := by simpa using e
      rw [ahd, if_neg e'] at k
      exact k
    · have e' : p.x * q.z = q.x * p.z := by simpa using e
      rw [ahd, if_pos e'] at k
      exact k
def sp_l_turn : Sp := fun vs H Q _ => ∃ v w u p q r, vs = [v, w, u] ∧ AtP H v p ∧ AtP H w q ∧ AtP H u r ∧ Sz 4000 p ∧ Sz 4000 q ∧ Sz 4000 r ∧ 0 < p.z ∧ Q (.int (sgn (det p q r))) H
theorem pu_int {σ : L2.St} {H : Hp} {t : TA} {c : Bool} (ha : PuA t σ H [.bl c]) : Pu (tCB (fun xs H Q => (∃ i, xs = [.int i] ∧ Q (.int i) H) ∨ ∃ k, xs = [.bl k] ∧ Q (.int (if k then 1 else 0)) H) t) σ H (.int (if c then 1 else 0)) := fun _ q => ha _ (.inr ⟨c, rfl, q⟩)
theorem sgn_cmp (x y : Int) : (if decide (y < x) = true then (1 : Int) else 0) - (if decide (x < y) = true then 1 else 0) = sgn (x - y) := by
  unfold sgn
  by_cases h1 : y < x
  · rw [if_pos (decide_eq_true h1), if_neg (by rw [decide_eq_true_iff]; omega), if_pos (by omega)]; rfl
  · by_cases h2 : x < y
    · rw [if_neg (by rw [decide_eq_true_iff]; exact h1), if_pos (decide_eq_true h2), if_neg (by omega), if_pos (by omega)]; rfl
    · rw [if_neg (by rw [decide_eq_true_iff]; exact h1), if_neg (by rw [decide_eq_true_iff]; exact h2), if_neg (by omega), if_neg (by omega)]; rfl
theorem sc_l_turn : FnScope ["_law_p", "_law_q", "_law_r", "_law_one", "_law_other"] ["_law_p", "_law_q", "_law_r"] (defScope s_l_turn) := ⟨rfl, rfl, rfl, by decide +kernel, rfl, by decide +kernel, by decide +kernel⟩
theorem ok_l_turn (T : Txt K mg t) : FnOk P w K mg base CX0 1 t.f_l_turn t.d_l_turn ["_law_p", "_law_q", "_law_r"] sp_l_turn := by
  refine T.l_turn.F.ok (k := 0) sc_l_turn (fun vs H Q E h => ?_) (fun cdv A outer s H vs Q E hr h => ?_)
  · obtain ⟨v, w, u, p, q, r, rfl, _⟩ := h
    rfl
  · obtain ⟨v, w, u, p, q, r, rfl, ⟨a, rfl, ha⟩, ⟨b, rfl, hb⟩, ⟨c, rfl, hc⟩, zp, zq, zr, hp, k⟩ := h
    have d1 := (zq.x.mul zp.z).sub (zp.x.mul zq.z)
    have d2 := (zr.y.mul zp.z).sub (zp.y.mul zr.z)
    have d3 := (zq.y.mul zp.z).sub (zp.y.mul zq.z)
    have d4 := (zr.x.mul zp.z).sub (zp.x.mul zr.z)
    refine ⟨_, (@pss_cons _ _ _ _ _ (@ps_set _ _ 3 _ _ _ _ sc_l_turn.nd rfl (Or.inl rfl) (@pe_op _ _ _ _ _ _ _ _ op_mulB (@pe_op _ _ _ _ _ _ _ _ op_sub (@pe_op _ _ _ _ _ _ _ _ op_mulB (@pe_ix _ _ _ _ _ _ _ ix_tup (pv 1) (@pe_int _ _ _ _) (fun _ _ => rfl)) (@pe_ix _ _ _ _ _ _ _ ix_tup (pv 0) (@pe_int _ _ _ _) (fun _ _ => rfl))) (@pe_op _ _ _ _ _ _ _ _ op_mulB (@pe_ix _ _ _ _ _ _ _ ix_tup (pv 0) (@pe_int _ _ _ _) (fun _ _ => rfl)) (@pe_ix _ _ _ _ _ _ _ ix_tup (pv 1) (@pe_int _ _ _ _) (fun _ _ => rfl)))) (@pe_op _ _ _ _ _ _ _ _ op_sub (@pe_op _ _ _ _ _ _ _ _ op_mulB (@pe_ix _ _ _ _ _ _ _ ix_tup (pv 2) (@pe_int _ _ _ _) (fun _ _ => rfl)) (@pe_ix _ _ _ _ _ _ _ ix_tup (pv 0) (@pe_int _ _ _ _) (fun _ _ => rfl))) (@pe_op _ _ _ _ _ _ _ _ op_mulB (@pe_ix _ _ _ _ _ _ _ ix_tup (pv 0) (@pe_int _ _ _ _) (fun _ _ => rfl)) (@pe_ix _ _ _ _ _ _ _ ix_tup (pv 2) (@pe_int _ _ _ _) (fun _ _ => rfl))))) (by rfl) (by first | exact .inl rfl | exact .inr rfl | assumption)) (@pss_cons _ _ _ _ _ (@ps_set _ _ 4 _ _ _ _ sc_l_turn.nd rfl (Or.inl rfl) (@pe_op _ _ _ _ _ _ _ _ op_mulB (@pe_op _ _ _ _ _ _ _ _ op_sub (@pe_op _ _ _ _ _ _ _ _ op_mulB (@pe_ix _ _ _ _ _ _ _ ix_tup (pv 1) (@pe_int _ _ _ _) (fun _ _ => rfl)) (@pe_ix _ _ _ _ _ _ _ ix_tup (pv 0) (@pe_int _ _ _ _) (fun _ _ => rfl))) (@pe_op _ _ _ _ _ _ _ _ op_mulB (@pe_ix _ _ _ _ _ _ _ ix_tup (pv 0) (@pe_int _ _ _ _) (fun _ _ => rfl)) (@pe_ix _ _ _ _ _ _ _ ix_tup (pv 1) (@pe_int _ _ _ _) (fun _ _ => rfl)))) (@pe_op _ _ _ _ _ _ _ _ op_sub (@pe_op _ _ _ _ _ _ _ _ op_mulB (@pe_ix _ _ _ _ _ _ _ ix_tup (pv 2) (@pe_int _ _ _ _) (fun _ _ => rfl)) (@pe_ix _ _ _ _ _ _ _ ix_tup (pv 0) (@pe_int _ _ _ _) (fun _ _ => rfl))) (@pe_op _ _ _ _ _ _ _ _ op_mulB (@pe_ix _ _ _ _ _ _ _ ix_tup (pv 0) (@pe_int _ _ _ _) (fun _ _ => rfl)) (@pe_ix _ _ _ _ _ _ _ ix_tup (pv 2) (@pe_int _ _ _ _) (fun _ _ => rfl))))) (by rfl) (by first | exact .inl rfl | exact .inr rfl | assumption)) (@pss_one _ _ _ (@ps_ret _ _ _ _ (@pe_op _ _ _ _ _ _ _ _ op_sub (@pe_callTy _ _ _ _ _ _ _ _ _ call_int1 (by rfl) T.b_int PyProof.Rows.boot_int (@pa_cons _ _ _ _ _ (@pe_cmpR _ _ _ _ _ _ _ _ op_gt (pv 3) (pv 4) (nomark _)) (@pa_nil _) star_cmp) (by decide) (by decide) (by rfl) (by rfl)) (@pe_callTy _ _ _ _ _ _ _ _ _ call_int1 (by rfl) T.b_int PyProof.Rows.boot_int (@pa_cons _ _ _ _ _ (@pe_cmpR _ _ _ _ _ _ _ _ op_lt (pv 3) (pv 4) (nomark _)) (@pa_nil _) star_cmp) (by decide) (by decide) (by rfl) (by rfl))))))), ?_⟩
    refine st_set (pu_mul (pu_sub (pu_mul (pu_ixT (pu_v rfl) pu_c (SqT.of (hb)) rfl) (pu_ixT (pu_v rfl) pu_c (SqT.of (ha)) rfl) (mulOk_of (zq.x) (zp.z) (by decide))) (pu_mul (pu_ixT (pu_v rfl) pu_c (SqT.of (ha)) rfl) (pu_ixT (pu_v rfl) pu_c (SqT.of (hb)) rfl) (mulOk_of (zp.x) (zq.z) (by decide)))) (pu_sub (pu_mul (pu_ixT (pu_v rfl) pu_c (SqT.of (hc)) rfl) (pu_ixT (pu_v rfl) pu_c (SqT.of (ha)) rfl) (mulOk_of (zr.y) (zp.z) (by decide))) (pu_mul (pu_ixT (pu_v rfl) pu_c (SqT.of (ha)) rfl) (pu_ixT (pu_v rfl) pu_c (SqT.of (hc)) rfl) (mulOk_of (zp.y) (zr.z) (by decide)))) (mulOk_of (d1) (d2) (by decide))) ?_
    refine st_set (pu_mul (pu_sub (pu_mul (pu_ixT (pu_v rfl) pu_c (SqT.of (hb)) rfl) (pu_ixT (pu_v rfl) pu_c (SqT.of (ha)) rfl) (mulOk_of (zq.y) (zp.z) (by decide))) (pu_mul (pu_ixT (pu_v rfl) pu_c (SqT.of (ha)) rfl) (pu_ixT (pu_v rfl) pu_c (SqT.of (hb)) rfl) (mulOk_of (zp.y) (zq.z) (by decide)))) (pu_sub (pu_mul (pu_ixT (pu_v rfl) pu_c (SqT.of (hc)) rfl) (pu_ixT (pu_v rfl) pu_c (SqT.of (ha)) rfl) (mulOk_of (zr.x) (zp.z) (by decide))) (pu_mul (pu_ixT (pu_v rfl) pu_c (SqT.of (ha)) rfl) (pu_ixT (pu_v rfl) pu_c (SqT.of (hc)) rfl) (mulOk_of (zp.x) (zr.z) (by decide)))) (mulOk_of (d3) (d4) (by decide))) ?_
    refine st_ret (pu_sub (pu_int (pa_c (pu_gt (pu_v rfl) (pu_v rfl)) pa_n)) (pu_int (pa_c (pu_lt (pu_v rfl) (pu_v rfl)) pa_n))) ?_
    rw [sgn_cmp, det_turn, sgn_scale hp]
    exact k
def sp_l_fraction : Sp := fun vs H Q _ => ∃ (n m : Int) (c : Nat), vs = [.int n, .int m] ∧ 0 < m ∧ Bd c n ∧ Bd c m ∧ c ≤ 400 ∧ ∀ v H' x y, Same H H' → TupT H' v [x, y] → 0 < y → (0 < n → 0 < x) → (n ≤ 0 → x ≤ 0) → Bd c x → Bd c y → Q v H'
theorem sc_l_fraction : FnScope ["_law_top", "_law_bottom", "_law_d"] ["_law_top", "_law_bottom"] (defScope s_l_fraction) := ⟨rfl, rfl, rfl, by decide +kernel, rfl, by decide +kernel, by decide +kernel⟩
theorem ok_l_fraction (T : Txt K mg t) : FnOk P w K mg base CX0 2 t.f_l_fraction t.d_l_fraction ["_law_top", "_law_bottom"] sp_l_fraction := by
  refine T.l_fraction.F.ok (k := 1) sc_l_fraction (fun vs H Q E h => ?_) (fun cdv A outer s H vs Q E hr h => ?_)
  · obtain ⟨n, m, c, rfl, _⟩ := h
    rfl
  · obtain ⟨n, m, c, rfl, hm, bn, bm, hc, k⟩ := h
    refine ⟨_, (@pss_cons _ _ _ _ _ (@ps_set _ _ 2 _ _ _ _ sc_l_fraction.nd rfl (Or.inl rfl) (@pe_fn _ _ _ _ _ _ _ _ _ _ _ _ _ _ T.l_divisor (ok_l_divisor T) hr (by decide) (@pa_cons _ _ _ _ _ (pv 1) (@pa_cons _ _ _ _ _ (pv 0) (@pa_nil _) star_name) star_name) (by rfl) (by decide) (by rfl) (by rfl)) (by rfl) (by first | exact .inl rfl | exact .inr rfl | assumption)) (@pss_one _ _ _ (@ps_ret _ _ _ _ (@pe_tup _ _ _ _ _ (@pa_cons _ _ _ _ _ (@pe_op _ _ _ _ _ _ _ _ op_fdivB (pv 0) (pv 2)) (@pa_cons _ _ _ _ _ (@pe_op _ _ _ _ _ _ _ _ op_fdivB (pv 1) (pv 2)) (@pa_nil _) star_bin) star_bin))))), ?_⟩
    have eg : ((Int.gcd m n : Nat) : Int) = gS n m := by
      unfold gS
      rw [if_neg (by omega), Int.gcd_comm]
    have lh := low_has (n := n) (m := m) (by omega)
    have ll := low_le (n := n) (m := m) (by omega)
    have hne := gS_ne (a := n) (b := m) (by omega)
    have hbd := gS_bd (a := n) (by omega) bm
    refine st_set (pu_call (pa_c (pu_v rfl) (pa_c (pu_v rfl) pa_n)) (fun Q q => ⟨m, n, rfl, q⟩)) ?_
    rw [eg]
    refine st_retG (gv_tup (pa_c (pu_fdiv (pu_v rfl) (pu_v rfl) ⟨hne, hbd.mono (by omega)⟩) (pa_c (pu_fdiv (pu_v rfl) (pu_v rfl) ⟨hne, hbd.mono (by omega)⟩) pa_n)) (by show 2 ≤ sizeLine; decide)) ?_
    rintro _ _ ⟨p, hp, rfl, rfl⟩
    obtain ⟨l1, _, l3⟩ := lh
    refine k _ _ _ _ (Same.upd hp) (TupT.of (ns := [n.fdiv (gS n m), m.fdiv (gS n m)]) upd_same) l1 (fun h => ?_) (fun h => ?_) (bn.le ll.1) (bm.le ll.2)
    · have h1 : 0 < n * m.fdiv (gS n m) := Int.mul_pos h l1
      rw [← l3] at h1
      exact Int.pos_of_mul_pos_right (by rw [Int.mul_comm] at h1; exact h1) hm |> fun z => z
    · have h1 : n * m.fdiv (gS n m) ≤ 0 := Int.mul_nonpos_of_nonpos_of_nonneg h (Int.le_of_lt l1)
      rw [← l3] at h1
      rcases Int.lt_or_le 0 (n.fdiv (gS n m)) with z | z
      · have := Int.mul_pos z hm
        omega
      · exact z
def sp_l_whole : Sp := fun vs H Q _ => ∃ n : Int, vs = [.int n] ∧ Q (.bl true) H
theorem sc_l_whole : FnScope ["_law_thing"] ["_law_thing"] (defScope s_l_whole) := ⟨rfl, rfl, rfl, by decide +kernel, rfl, by decide +kernel, by decide +kernel⟩
theorem ok_l_whole (T : Txt K mg t) : FnOk P w K mg base CX0 1 t.f_l_whole t.d_l_whole ["_law_thing"] sp_l_whole := by
  refine T.l_whole.F.ok (k := 0) sc_l_whole (fun vs H Q E h => ?_) (fun cdv A outer s H vs Q E hr h => ?_)
  · obtain ⟨n, rfl, _⟩ := h
    rfl
  · obtain ⟨n, rfl, k⟩ := h
    refine ⟨_, (@pss_one _ _ _ (@ps_ret _ _ _ _ (@pe_and _ _ _ _ _ _ _ (@pe_callB _ _ _ _ _ _ _ _ _ call_isinst (by rfl) T.b_isinstance PyProof.Rows.boot_isinstance (@pa_cons _ _ _ _ _ (pv 0) (@pa_cons _ _ _ _ _ (@pe_ty _ _ _ _ T.b_int PyProof.Rows.boot_int (by rfl) (by decide) (by decide)) (@pa_nil _) star_name) star_name) (by decide) (by decide) (by rfl) (by rfl)) (@pe_one _ _ _ _ _ (@pe_not _ _ _ _ (@pe_callB _ _ _ _ _ _ _ _ _ call_isinst (by rfl) T.b_isinstance PyProof.Rows.boot_isinstance (@pa_cons _ _ _ _ _ (pv 0) (@pa_cons _ _ _ _ _ (@pe_ty _ _ _ _ T.b_bool PyProof.Rows.boot_bool (by rfl) (by decide) (by decide)) (@pa_nil _) star_name) star_name) (by decide) (by decide) (by rfl) (by rfl))))))), ?_⟩
    exact st_ret (pu_and (pu_isi (pa_c (pu_v rfl) (pa_c pu_c pa_n)) (.int n) kit_same) fun _ => pu_not (pu_isi (pa_c (pu_v rfl) (pa_c pu_c pa_n)) (.int n) kit_int_bool)) k
def sp_l_wholes : Sp := fun vs H Q _ => ∃ v ns, vs = [v, .int (List.length ns)] ∧ TupT H v ns ∧ Q (.bl true) H
theorem sc_l_wholes : FnScope ["_law_thing", "_law_many", "_law_part"] ["_law_thing", "_law_many"] (defScope s_l_wholes) := ⟨rfl, rfl, rfl, by decide +kernel, rfl, by decide +kernel, by decide +kernel⟩
theorem ok_l_wholes (T : Txt K mg t) : FnOk P w K mg base CX0 2 t.f_l_wholes t.d_l_wholes ["_law_thing", "_law_many"] sp_l_wholes := by
  refine T.l_wholes.F.ok (k := 1) sc_l_wholes (fun vs H Q E h => ?_) (fun cdv A outer s H vs Q E hr h => ?_)
  · obtain ⟨v, ns, rfl, _⟩ := h
    rfl
  · obtain ⟨v, ns, rfl, ⟨a, rfl, ha⟩, k⟩ := h
    refine ⟨_, (@pss_cons _ _ _ _ _ (@ps_if _ _ _ _ _ _ _ _ (PW.pt (@pw_or _ _ _ _ _ _ _ (@pt_not _ _ _ _ (@pt_val _ _ _ (@pe_callB _ _ _ _ _ _ _ _ _ call_isinst (by rfl) T.b_isinstance PyProof.Rows.boot_isinstance (@pa_cons _ _ _ _ _ (pv 0) (@pa_cons _ _ _ _ _ (@pe_ty _ _ _ _ T.b_tuple PyProof.Rows.boot_tuple (by rfl) (by decide) (by decide)) (@pa_nil _) star_name) star_name) (by decide) (by decide) (by rfl) (by rfl)) (by intro _; rfl))) (@pw_or1 _ _ _ _ (@pt_cmpR _ _ _ _ _ _ _ _ op_ne (@pe_callB _ _ _ _ _ _ _ _ _ call_len_seq (by rfl) T.b_len PySem.boot_len (@pa_cons _ _ _ _ _ (pv 0) (@pa_nil _) star_name) (by decide) (by decide) (by rfl) (by rfl)) (pv 1) (nomark _))))) (@pss_one _ _ _ (@ps_ret _ _ _ _ (@pe_bl _ _ _ _))) (@pss_nil _)) (@pss_cons _ _ _ _ _ (@ps_for _ _ _ _ _ _ _ _ PassesOwn.never rfl (@pi_tup _ _ _ _ (pv 0)) (@pg_name _ _ 2 _ sc_l_wholes.nd rfl (Or.inl rfl) (by first | exact .inl rfl | exact .inr rfl | assumption)) (@pss_one _ _ _ (@ps_if _ _ _ _ _ _ _ _ (@pt_not _ _ _ _ (@pt_val _ _ _ (@pe_fn _ _ _ _ _ _ _ _ _ _ _ _ _ _ T.l_whole (ok_l_whole T) hr (by decide) (@pa_cons _ _ _ _ _ (pv 2) (@pa_nil _) star_name) (by rfl) (by decide) (by rfl) (by rfl)) (by intro _; rfl))) (@pss_one _ _ _ (@ps_ret _ _ _ _ (@pe_bl _ _ _ _))) (@pss_nil _))) (by intro _; rfl)) (@pss_one _ _ _ (@ps_ret _ _ _ _ (@pe_bl _ _ _ _))))), ?_⟩
    refine st_ifN (pt_or (b := false) (pt_n (b := true) (pt_b (pu_isi (pa_c (pu_v rfl) (pa_c pu_c pa_n)) (.tup ha) kit_same))) fun _ => pt_t (pu_neI (pu_lenT (pa_c (pu_v rfl) pa_n) (SqT.of ha)) (pu_v rfl))) (fun e => absurd e (by simp)) fun _ => ?_
    refine st_tupl (K := K) (xs := ns.map V.int) (pu_v rfl) (fun i σ H' => H = H' ∧ ∃ z : Option V, σ = [some (.ref a), some (.int ns.length), z]) ⟨rfl, none, rfl⟩ (fun i σ H' _ ⟨e, _⟩ => by subst e; exact SqT.of ha) ?_ ?_
    · rintro i x σ _ hx ⟨rfl, z, rfl⟩
      obtain ⟨n, _, rfl⟩ := List.mem_map.mp (List.mem_of_getElem? hx)
      refine st_ifN1 (pt_n (b := true) (pt_b (pu_call (pa_c (pu_v rfl) pa_n) fun Q f => ⟨n, rfl, f⟩))) (fun e => by simp at e) fun _ => ⟨rfl, _, rfl⟩
    · rintro σ _ ⟨rfl, z, rfl⟩
      exact st_ret pu_c k
def sp_l_on : Sp := fun vs H Q _ => ∃ v w u p a b, vs = [v, w, u] ∧ AtP H v p ∧ AtP H w a ∧ AtP H u b ∧ Sz 4000 p ∧ Sz 4000 a ∧ Sz 4000 b ∧ 0 < a.z ∧ Q (.bl (onB p a b)) H
theorem pu_lahd {σ : L2.St} {H : Hp} {t : TA} {v w : V} {p q : Pt3} (ha : PuA t σ H [v, w]) (h1 : AtP H v p) (h2 : AtP H w q) (zp : Sz 4000 p) (zq : Sz 4000 q) : Pu (tCall sp_l_ahead [] E0 t) σ H (.bl (ahd p q)) :=
  pu_call ha fun Q f => ⟨v, w, p, q, rfl, h1, h2, zp, zq, f⟩
theorem sc_l_on : FnScope ["_law_p", "_law_a", "_law_b"] ["_law_p", "_law_a", "_law_b"] (defScope s_l_on) := ⟨rfl, rfl, rfl, by decide +kernel, rfl, by decide +kernel, by decide +kernel⟩
theorem ok_l_on (T : Txt K mg t) : FnOk P w K mg base CX0 2 t.f_l_on t.d_l_on ["_law_p", "_law_a", "_law_b"] sp_l_on := by
  refine T.l_on.F.ok (k := 1) sc_l_on (fun vs H Q E h => ?_) (fun cdv A outer s H vs Q E hr h => ?_)
  · obtain ⟨v, w, u, p, a, b, rfl, _⟩ := h
    rfl
  · obtain ⟨v, w, u, p, a, b, rfl, hp, ha, hb, zp, za, zb, h0, k⟩ := h
    refine ⟨_, (@pss_cons _ _ _ _ _ (@ps_if _ _ _ _ _ _ _ _ (@pt_cmpR _ _ _ _ _ _ _ _ op_ne (@pe_fn _ _ _ _ _ _ _ _ _ _ _ _ _ _ T.l_turn (ok_l_turn T) hr (by decide) (@pa_cons _ _ _ _ _ (pv 1) (@pa_cons _ _ _ _ _ (pv 2) (@pa_cons _ _ _ _ _ (pv 0) (@pa_nil _) star_name) star_name) star_name) (by rfl) (by decide) (by rfl) (by rfl)) (@pe_int _ _ _ _) (nomark _)) (@pss_one _ _ _ (@ps_ret _ _ _ _ (@pe_bl _ _ _ _))) (@pss_nil _)) (@pss_cons _ _ _ _ _ (@ps_if _ _ _ _ _ _ _ _ (@pt_val _ _ _ (@pe_fn _ _ _ _ _ _ _ _ _ _ _ _ _ _ T.l_ahead (ok_l_ahead T) hr (by decide) (@pa_cons _ _ _ _ _ (pv 1) (@pa_cons _ _ _ _ _ (pv 2) (@pa_nil _) star_name) star_name) (by rfl) (by decide) (by rfl) (by rfl)) (by intro _; rfl)) (@pss_one _ _ _ (@ps_ret _ _ _ _ (@pe_and _ _ _ _ _ _ _ (@pe_not _ _ _ _ (@pe_fn _ _ _ _ _ _ _ _ _ _ _ _ _ _ T.l_ahead (ok_l_ahead T) hr (by decide) (@pa_cons _ _ _ _ _ (pv 0) (@pa_cons _ _ _ _ _ (pv 1) (@pa_nil _) star_name) star_name) (by rfl) (by decide) (by rfl) (by rfl))) (@pe_one _ _ _ _ _ (@pe_not _ _ _ _ (@pe_fn _ _ _ _ _ _ _ _ _ _ _ _ _ _ T.l_ahead (ok_l_ahead T) hr (by decide) (@pa_cons _ _ _ _ _ (pv 2) (@pa_cons _ _ _ _ _ (pv 0) (@pa_nil _) star_name) star_name) (by rfl) (by decide) (by rfl) (by rfl))))))) (@pss_nil _)) (@pss_one _ _ _ (@ps_ret _ _ _ _ (@pe_and _ _ _ _ _ _ _ (@pe_not _ _ _ _ (@pe_fn _ _ _ _ _ _ _ _ _ _ _ _ _ _ T.l_ahead (ok_l_ahead T) hr (by decide) (@pa_cons _ _ _ _ _ (pv 0) (@pa_cons _ _ _ _ _ (pv 2) (@pa_nil _) star_name) star_name) (by rfl) (by decide) (by rfl) (by rfl))) (@pe_one _ _ _ _ _ (@pe_not _ _ _ _ (@pe_fn _ _ _ _ _ _ _ _ _ _ _ _ _ _ T.l_ahead (ok_l_ahead T) hr (by decide) (@pa_cons _ _ _ _ _ (pv 1) (@pa_cons _ _ _ _ _ (pv 0) (@pa_nil _) star_name) star_name) (by rfl) (by decide) (by rfl) (by rfl))))))))), ?_⟩
    refine st_ifN (pt_t (pu_neI (pu_call (pa_c (pu_v rfl) (pa_c (pu_v rfl) (pa_c (pu_v rfl) pa_n))) (fun Q f => ⟨_, _, _, a, b, p, rfl, ha, hb, hp, za, zb, zp, h0, f⟩)) pu_c)) (fun e => st_ret pu_c ?_) (fun e => ?_)
    · have e' : ¬ det a b p = 0 := by
        intro z
        rw [z] at e
        exact absurd e (by decide)
      rw [onB, if_neg e'] at k
      exact k
    have e' : det a b p = 0 := by
      rw [Bool.not_eq_false', decide_eq_true_iff] at e
      exact sgn_eq0.mp e
    rw [onB, if_pos e'] at k
    refine st_ifN (pt_b (pu_lahd (pa_c (pu_v rfl) (pa_c (pu_v rfl) pa_n)) ha hb za zb)) (fun z => st_ret (pu_and (pu_not (pu_lahd (pa_c (pu_v rfl) (pa_c (pu_v rfl) pa_n)) hp ha zp za)) fun _ => pu_not (pu_lahd (pa_c (pu_v rfl) (pa_c (pu_v rfl) pa_n)) hb hp zb zp)) ?_) (fun z => st_ret (pu_and (pu_not (pu_lahd (pa_c (pu_v rfl) (pa_c (pu_v rfl) pa_n)) hp hb zp zb)) fun _ => pu_not (pu_lahd (pa_c (pu_v rfl) (pa_c (pu_v rfl) pa_n)) ha hp za zp)) ?_)
    · rw [if_pos z] at k
      exact k
    · rw [if_neg (by rw [z]; decide)] at k
      exact k
def sp_l_touch : Sp := fun vs H Q _ => ∃ va vb vc vd a b c d, vs = [va, vb, vc, vd] ∧ AtP H va a ∧ AtP H vb b ∧ AtP H vc c ∧ AtP H vd d ∧ Sz 900 a ∧ Sz 900 b ∧ Sz 900 c ∧ Sz 900 d ∧ 0 < a.z ∧ 0 < c.z ∧ Q (.bl (touchB a b c d)) H
theorem pu_on {σ : L2.St} {H : Hp} {t : TA} {v w u : V} {p a b : Pt3} (hA : PuA t σ H [v, w, u]) (h1 : AtP H v p) (h2 : AtP H w a) (h3 : AtP H u b) (zp : Sz 4000 p) (za : Sz 900 a) (zb : Sz 900 b) (a0 : 0 < a.z) : Pu (tCall sp_l_on [] E0 t) σ H (.bl (onB p a b)) :=
  pu_call hA fun Q f => ⟨v, w, u, p, a, b, rfl, h1, h2, h3, zp, za.mono (by decide), zb.mono (by decide), a0, f⟩
theorem pu_tn {σ : L2.St} {H : Hp} {t : TA} {v w u : V} {a b p : Pt3} (hA : PuA t σ H [v, w, u]) (h1 : AtP H v a) (h2 : AtP H w b) (h3 : AtP H u p) (za : Sz 900 a) (zb : Sz 900 b) (zp : Sz 900 p) (a0 : 0 < a.z) : Pu (tCall sp_l_turn [] E0 t) σ H (.int (sgn (det a b p))) :=
  pu_call hA fun Q f => ⟨v, w, u, a, b, p, rfl, h1, h2, h3, za.mono (by decide), zb.mono (by decide), zp.mono (by decide), a0, f⟩
theorem sgn_ok (x y : Int) : IntMulOk (sgn x) (sgn y) := by
  have b : ∀ z, Bd 8 (sgn z) := fun z => by
    rcases sgn_cases z with ⟨e, _⟩ | ⟨e, _⟩ | ⟨e, _⟩ <;> rw [e] <;> unfold Bd <;> decide
  exact mulOk_of (b x) (b y) (by decide)
theorem sc_l_touch : FnScope ["_law_a", "_law_b", "_law_c", "_law_d"] ["_law_a", "_law_b", "_law_c", "_law_d"] (defScope s_l_touch) := ⟨rfl, rfl, rfl, by decide +kernel, rfl, by decide +kernel, by decide +kernel⟩
theorem ok_l_touch (T : Txt K mg t) : FnOk P w K mg base CX0 3 t.f_l_touch t.d_l_touch ["_law_a", "_law_b", "_law_c", "_law_d"] sp_l_touch := by
  refine T.l_touch.F.ok (k := 2) sc_l_touch (fun vs H Q E h => ?_) (fun cdv A outer s H vs Q E hr h => ?_)
  · obtain ⟨va, vb, vc, vd, a, b, c, d, rfl, _⟩ := h
    rfl
  · obtain ⟨va, vb, vc, vd, a, b, c, d, rfl, ha, hb, hc, hd, za, zb, zc, zd, a0, c0, k⟩ := h
    refine ⟨_, (@pss_cons _ _ _ _ _ (@ps_if _ _ _ _ _ _ _ _ (PW.pt (@pw_or _ _ _ _ _ _ _ (@pt_val _ _ _ (@pe_fn _ _ _ _ _ _ _ _ _ _ _ _ _ _ T.l_on (ok_l_on T) hr (by decide) (@pa_cons _ _ _ _ _ (pv 0) (@pa_cons _ _ _ _ _ (pv 2) (@pa_cons _ _ _ _ _ (pv 3) (@pa_nil _) star_name) star_name) star_name) (by rfl) (by decide) (by rfl) (by rfl)) (by intro _; rfl)) (@pw_or _ _ _ _ _ _ _ (@pt_val _ _ _ (@pe_fn _ _ _ _ _ _ _ _ _ _ _ _ _ _ T.l_on (ok_l_on T) hr (by decide) (@pa_cons _ _ _ _ _ (pv 1) (@pa_cons _ _ _ _ _ (pv 2) (@pa_cons _ _ _ _ _ (pv 3) (@pa_nil _) star_name) star_name) star_name) (by rfl) (by decide) (by rfl) (by rfl)) (by intro _; rfl)) (@pw_or _ _ _ _ _ _ _ (@pt_val _ _ _ (@pe_fn _ _ _ _ _ _ _ _ _ _ _ _ _ _ T.l_on (ok_l_on T) hr (by decide) (@pa_cons _ _ _ _ _ (pv 2) (@pa_cons _ _ _ _ _ (pv 0) (@pa_cons _ _ _ _ _ (pv 1) (@pa_nil _) star_name) star_name) star_name) (by rfl) (by decide) (by rfl) (by rfl)) (by intro _; rfl)) (@pw_or1 _ _ _ _ (@pt_val _ _ _ (@pe_fn _ _ _ _ _ _ _ _ _ _ _ _ _ _ T.l_on (ok_l_on T) hr (by decide) (@pa_cons _ _ _ _ _ (pv 3) (@pa_cons _ _ _ _ _ (pv 0) (@pa_cons _ _ _ _ _ (pv 1) (@pa_nil _) star_name) star_name) star_name) (by rfl) (by decide) (by rfl) (by rfl)) (by intro _; rfl))))))) (@pss_one _ _ _ (@ps_ret _ _ _ _ (@pe_bl _ _ _ _))) (@pss_nil _)) (@pss_cons _ _ _ _ _ (@ps_if _ _ _ _ _ _ _ _ (@pt_cmpR _ _ _ _ _ _ _ _ op_ge (@pe_op _ _ _ _ _ _ _ _ op_mulB (@pe_fn _ _ _ _ _ _ _ _ _ _ _ _ _ _ T.l_turn (ok_l_turn T) hr (by decide) (@pa_cons _ _ _ _ _ (pv 0) (@pa_cons _ _ _ _ _ (pv 1) (@pa_cons _ _ _ _ _ (pv 2) (@pa_nil _) star_name) star_name) star_name) (by rfl) (by decide) (by rfl) (by rfl)) (@pe_fn _ _ _ _ _ _ _ _ _ _ _ _ _ _ T.l_turn (ok_l_turn T) hr (by decide) (@pa_cons _ _ _ _ _ (pv 0) (@pa_cons _ _ _ _ _ (pv 1) (@pa_cons _ _ _ _ _ (pv 3) (@pa_nil _) star_name) star_name) star_name) (by rfl) (by decide) (by rfl) (by rfl))) (@pe_int _ _ _ _) (nomark _)) (@pss_one _ _ _ (@ps_ret _ _ _ _ (@pe_bl _ _ _ _))) (@pss_nil _)) (@pss_one _ _ _ (@ps_ret _ _ _ _ (@pe_cmpR _ _ _ _ _ _ _ _ op_lt (@pe_op _ _ _ _ _ _ _ _ op_mulB (@pe_fn _ _ _ _ _ _ _ _ _ _ _ _ _ _ T.l_turn (ok_l_turn T) hr (by decide) (@pa_cons _ _ _ _ _ (pv 2) (@pa_cons _ _ _ _ _ (pv 3) (@pa_cons _ _ _ _ _ (pv 0) (@pa_nil _) star_name) star_name) star_name) (by rfl) (by decide) (by rfl) (by rfl)) (@pe_fn _ _ _ _ _ _ _ _ _ _ _ _ _ _ T.l_turn (ok_l_turn T) hr (by decide) (@pa_cons _ _ _ _ _ (pv 2) (@pa_cons _ _ _ _ _ (pv 3) (@pa_cons _ _ _ _ _ (pv 1) (@pa_nil _) star_name) star_name) star_name) (by rfl) (by decide) (by rfl) (by rfl))) (@pe_int _ _ _ _) (nomark _)))))), ?_⟩
    have w : ∀ {p : Pt3}, Sz 900 p → Sz 4000 p := fun h => h.mono (by decide)
    have A3 : ∀ {σ : L2.St} {Hx : Hp} {i j k : Nat} {w x y : V}, σ[i]? = some (some w) → σ[j]? = some (some x) → σ[k]? = some (some y) → PuA (tCons (tVar i) (tCons (tVar j) (tCons (tVar k) tNil))) σ Hx [w, x, y] := fun h1 h2 h3 => pa_c (pu_v h1) (pa_c (pu_v h2) (pa_c (pu_v h3) pa_n))
    refine st_ifN (pt_or (pt_b (pu_on (A3 rfl rfl rfl) ha hc hd (w za) zc zd c0)) fun _ => pt_or (pt_b (pu_on (A3 rfl rfl rfl) hb hc hd (w zb) zc zd c0)) fun _ => pt_or (pt_b (pu_on (A3 rfl rfl rfl) hc ha hb (w zc) za zb a0)) fun _ => pt_b (pu_on (A3 rfl rfl rfl) hd ha hb (w zd) za zb a0)) (fun e => st_ret pu_c ?_) fun e => ?_
    · rw [touchB, if_pos e] at k
      exact k
    rw [touchB, if_neg (by rw [e]; decide)] at k
    refine st_ifN (pt_t (pu_ge (pu_mul (pu_tn (A3 rfl rfl rfl) ha hb hc za zb zc a0) (pu_tn (A3 rfl rfl rfl) ha hb hd za zb zd a0) (sgn_ok _ _)) pu_c)) (fun z => st_ret pu_c ?_) fun z => ?_
    · rw [if_pos (of_decide_eq_true z)] at k
      exact k
    rw [if_neg (of_decide_eq_false z)] at k
    exact st_ret (pu_lt (pu_mul (pu_tn (A3 rfl rfl rfl) hc hd ha zc zd za c0) (pu_tn (A3 rfl rfl rfl) hc hd hb zc zd zb c0) (sgn_ok _ _)) pu_c) k
def sp_l_inside : Sp := fun vs H Q _ => ∃ u v w p i j x y, vs = [u, v, w] ∧ AtP H u p ∧ TupT H v [i, j] ∧ TupT H w [x, y] ∧ Sz 400 p ∧ Bd 400 i ∧ Bd 400 j ∧ Bd 400 x ∧ Bd 400 y ∧ ∀ b, (b = true ↔ InsP p i j x y) → Q (.bl b) H
theorem gt_ins {σ : L2.St} {H : Hp} {ta : TA} {u v w : V} {p : Pt3} {i j x y : Int} (ha : PuA ta σ H [u, v, w]) (hp : AtP H u p) (hc : TupT H v [i, j]) (hz : TupT H w [x, y]) (zp : Sz 400 p) (bi : Bd 400 i) (bj : Bd 400 j) (bx : Bd 400 x) (by' : Bd 400 y) : GvT (tB (tCall sp_l_inside [] E0 ta)) σ H (fun c H' => H = H' ∧ (c = true ↔ InsP p i j x y)) := fun Q f =>
  ha _ ⟨u, v, w, p, i, j, x, y, rfl, hp, hc, hz, zp, bi, bj, bx, by', fun b z => ⟨b, rfl, f _ _ ⟨rfl, z⟩⟩⟩
theorem sc_l_inside : FnScope ["_law_p", "_law_cell", "_law_size", "_law_k", "_law_here", "_law_step"] ["_law_p", "_law_cell", "_law_size"] (defScope s_l_inside) := ⟨rfl, rfl, rfl, by decide +kernel, rfl, by decide +kernel, by decide +kernel⟩
theorem ok_l_inside (T : Txt K mg t) : FnOk P w K mg base CX0 1 t.f_l_inside t.d_l_inside ["_law_p", "_law_cell", "_law_size"] sp_l_inside := by
  refine T.l_inside.F.ok (k := 0) sc_l_inside (fun vs H Q E h => ?_) (fun cdv A outer s H vs Q E hr h => ?_)
  · obtain ⟨u, v, w, p, i, j, x, y, rfl, _⟩ := h
    rfl
  · obtain ⟨u, v, w, p, i, j, x, y, rfl, ⟨a, rfl, ha⟩, ⟨b, rfl, hb⟩, ⟨c, rfl, hc⟩, zp, bi, bj, bx, by', k⟩ := h
    refine ⟨_, (@pss_cons _ _ _ _ _ (@ps_for _ _ _ _ _ _ _ _ PassesOwn.never rfl (@pi_range1 _ _ _ _ _ _ rfl T.b_range (@pa_cons _ _ _ _ _ (@pe_int _ _ _ _) (@pa_nil _) star_con) (by rfl)) (@pg_name _ _ 3 _ sc_l_inside.nd rfl (Or.inl rfl) (by first | exact .inl rfl | exact .inr rfl | assumption)) (@pss_cons _ _ _ _ _ (@ps_set _ _ 4 _ _ _ _ sc_l_inside.nd rfl (Or.inl rfl) (@pe_op _ _ _ _ _ _ _ _ op_mulB (@pe_op _ _ _ _ _ _ _ _ op_mulB (@pe_int _ _ _ _) (@pe_ix _ _ _ _ _ _ _ ix_tup (pv 2) (@pe_int _ _ _ _) (fun _ _ => rfl))) (@pe_ix _ _ _ _ _ _ _ ix_tup (pv 0) (pv 3) (fun _ _ => rfl))) (by rfl) (by first | exact .inl rfl | exact .inr rfl | assumption)) (@pss_cons _ _ _ _ _ (@ps_set _ _ 5 _ _ _ _ sc_l_inside.nd rfl (Or.inl rfl) (@pe_op _ _ _ _ _ _ _ _ op_mulB (@pe_ix _ _ _ _ _ _ _ ix_tup (pv 2) (@pe_int _ _ _ _) (fun _ _ => rfl)) (@pe_ix _ _ _ _ _ _ _ ix_tup (pv 0) (@pe_int _ _ _ _) (fun _ _ => rfl))) (by rfl) (by first | exact .inl rfl | exact .inr rfl | assumption)) (@pss_one _ _ _ (@ps_if _ _ _ _ _ _ _ _ (PW.pt (@pw_or _ _ _ _ _ _ _ (@pt_cmpR _ _ _ _ _ _ _ _ op_lt (pv 4) (@pe_op _ _ _ _ _ _ _ _ op_mulB (@pe_op _ _ _ _ _ _ _ _ op_sub (@pe_op _ _ _ _ _ _ _ _ op_mulB (@pe_int _ _ _ _) (@pe_ix _ _ _ _ _ _ _ ix_tup (pv 1) (pv 3) (fun _ _ => rfl))) (@pe_int _ _ _ _)) (pv 5)) (nomark _)) (@pw_or1 _ _ _ _ (@pt_cmpR _ _ _ _ _ _ _ _ op_ge (pv 4) (@pe_op _ _ _ _ _ _ _ _ op_mulB (@pe_op _ _ _ _ _ _ _ _ op_add (@pe_op _ _ _ _ _ _ _ _ op_mulB (@pe_int _ _ _ _) (@pe_ix _ _ _ _ _ _ _ ix_tup (pv 1) (pv 3) (fun _ _ => rfl))) (@pe_int _ _ _ _)) (pv 5)) (nomark _))))) (@pss_one _ _ _ (@ps_ret _ _ _ _ (@pe_bl _ _ _ _))) (@pss_nil _))))) (by intro _; rfl)) (@pss_one _ _ _ (@ps_ret _ _ _ _ (@pe_bl _ _ _ _)))), ?_⟩
    have b2 : Bd 2 (2 : Int) := by unfold Bd; decide
    refine st_range (n := 2) (pa_c pu_c pa_n) (by decide) (by decide) (fun n σ H' => H = H' ∧ ((0 < n → (2 * i - 1) * (x * p.z) ≤ 2 * y * p.x ∧ 2 * y * p.x < (2 * i + 1) * (x * p.z)) ∧ (1 < n → (2 * j - 1) * (x * p.z) ≤ 2 * y * p.y ∧ 2 * y * p.y < (2 * j + 1) * (x * p.z))) ∧ ∃ d e f : Option V, σ = [some (.ref a), some (.ref b), some (.ref c), d, e, f]) ⟨rfl, ⟨by omega, by omega⟩, none, none, none, rfl⟩ ?_ ?_
    · rintro n σ _ hn ⟨rfl, ⟨k1, k2⟩, d, e, f, rfl⟩
      obtain ⟨z, q, ez, eq, bz, bq, kz⟩ : ∃ z q : Int, atI ([p.x, p.y, p.z].map V.int) (0 + (n : Int)) = some (.int z) ∧ atI ([i, j].map V.int) (0 + (n : Int)) = some (.int q) ∧ Bd 400 z ∧ Bd 400 q ∧ ((n = 0 ∧ z = p.x ∧ q = i) ∨ (n = 1 ∧ z = p.y ∧ q = j)) := by
        have hn' : n = 0 ∨ n = 1 := by
          have : n < 2 := hn
          omega
        rcases hn' with rfl | rfl
        · exact ⟨p.x, i, rfl, rfl, zp.x, bi, .inl ⟨rfl, rfl, rfl⟩⟩
        · exact ⟨p.y, j, rfl, rfl, zp.y, bj, .inr ⟨rfl, rfl, rfl⟩⟩
      refine st_set (pu_mul (pu_mul pu_c (pu_ixT (pu_v rfl) pu_c (SqT.of (hc)) rfl) (mulOk_of (b2) (by') (by decide))) (pu_ixT (pu_v rfl) (pu_v rfl) (SqT.of ha) ez) (mulOk_of (b2.mul by') (bz) (by decide))) ?_
      refine st_set (pu_mul (pu_ixT (pu_v rfl) pu_c (SqT.of (hc)) rfl) (pu_ixT (pu_v rfl) pu_c (SqT.of (ha)) rfl) (mulOk_of (bx) (zp.z) (by decide))) ?_
      have bq1 : Bd 410 (2 * q - 1) := ((b2.mul bq).sub (Bd.mono (m := 2) (by unfold Bd; decide) (by decide))).mono (by decide)
      have bq2 : Bd 410 (2 * q + 1) := ((b2.mul bq).add (Bd.mono (m := 2) (by unfold Bd; decide) (by decide))).mono (by decide)
      refine st_ifN1 (pt_or (pt_t (pu_lt (pu_v rfl) (pu_mul (pu_sub (pu_mul pu_c (pu_ixT (pu_v rfl) (pu_v rfl) (SqT.of hb) eq) (mulOk_of (b2) (bq) (by decide))) pu_c) (pu_v rfl) (mulOk_of (bq1) (bx.mul zp.z) (by decide))))) fun _ => pt_t (pu_ge (pu_v rfl) (pu_mul (pu_add (pu_mul pu_c (pu_ixT (pu_v rfl) (pu_v rfl) (SqT.of hb) eq) (mulOk_of (b2) (bq) (by decide))) pu_c) (pu_v rfl) (mulOk_of (bq2) (bx.mul zp.z) (by decide))))) (fun e => st_ret pu_c ?_) fun e => ⟨rfl, ?_, _, _, _, rfl⟩
      · refine k false ?_
        rw [Bool.or_eq_true, decide_eq_true_iff, decide_eq_true_iff] at e
        unfold InsP
        constructor
        · intro z; cases z
        · rintro ⟨⟨g1, g2⟩, g3, g4⟩
          rcases kz with ⟨_, rfl, rfl⟩ | ⟨_, rfl, rfl⟩ <;> omega
      · rw [Bool.or_eq_false_iff, decide_eq_false_iff_not, decide_eq_false_iff_not] at e
        rcases kz with ⟨rfl, rfl, rfl⟩ | ⟨rfl, rfl, rfl⟩
        · exact ⟨fun _ => by omega, fun z => by omega⟩
        · exact ⟨fun _ => k1 (by omega), fun _ => by omega⟩
    · rintro σ _ ⟨rfl, ⟨k1, k2⟩, d, e, f, rfl⟩
      refine st_ret pu_c (k true ?_)
      have h1 := k1 (by decide)
      have h2 := k2 (by decide)
      unfold InsP
      simp only [h1, h2, and_self]
/-- the corner as a point -/
def cor (i j s0 s1 g f : Int) : Pt3 := pbF ((2 * i - 1 + 2 * g) * s0) ((2 * j - 1 + 2 * f) * s0) (2 * s1)
theorem cor_is {i j s0 s1 g f : Int} (h : 0 < s1) : Is3 ((2 * i - 1 + 2 * g) * s0) ((2 * j - 1 + 2 * f) * s0) (2 * s1) (cor i j s0 s1 g f) := by
  have := (pt_has (a := (2 * i - 1 + 2 * g) * s0) (b := (2 * j - 1 + 2 * f) * s0) (c := 2 * s1) (by omega)).1
  unfold cor
  rw [pb_is3 (by omega) this]
  exact this
def sp_l_corner : Sp := fun vs H Q _ => ∃ v w i j s0 s1 g f, vs = [v, w, .int g, .int f] ∧ TupT H v [i, j] ∧ TupT H w [s0, s1] ∧ Bd 400 i ∧ Bd 400 j ∧ Bd 400 s0 ∧ Bd 400 s1 ∧ Bd 8 g ∧ Bd 8 f ∧ 0 < s1 ∧ ∀ r H', Same H H' → AtP H' r (cor i j s0 s1 g f) → Q r H'
theorem cor_sz {i j s0 s1 g f : Int} (h : 0 < s1) (bi : Bd 400 i) (bj : Bd 400 j) (b0 : Bd 400 s0) (b1 : Bd 400 s1) (bg : Bd 8 g) (bf : Bd 8 f) : Sz 900 (cor i j s0 s1 g f) := by
  have b2 : Bd 2 (2 : Int) := by unfold Bd; decide
  have key : ∀ {u v : Int}, Bd 400 u → Bd 8 v → Bd 410 (2 * u - 1 + 2 * v) := fun {u v} bu bv => by
    have h1 := ((b2.mul bu).sub (Bd.mono (m := 2) (i := 1) (by unfold Bd; decide) (by decide : 2 ≤ 2 + 400)))
    exact (h1.add ((b2.mul bv).mono (by decide))).mono (by decide)
  exact Sz.is3 (cor_is h) (((key bi bg).mul b0).mono (by decide)) (((key bj bf).mul b0).mono (by decide)) ((b2.mul b1).mono (by decide))
theorem gv_corner {σ : L2.St} {H : Hp} {ta : TA} {v w : V} {i j s0 s1 g f : Int} (ha : PuA ta σ H [v, w, .int g, .int f]) (hc : TupT H v [i, j]) (hz : TupT H w [s0, s1]) (bi : Bd 400 i) (bj : Bd 400 j) (b0 : Bd 400 s0) (b1 : Bd 400 s1) (bg : Bd 8 g) (bf : Bd 8 f) (h1 : 0 < s1) : Gv (tCall sp_l_corner [] E0 ta) σ H (fun r H' => Same H H' ∧ AtP H' r (cor i j s0 s1 g f)) :=
  gv_call ha fun Q k => ⟨v, w, i, j, s0, s1, g, f, rfl, hc, hz, bi, bj, b0, b1, bg, bf, h1, fun r H' s t => k _ _ ⟨s, t⟩⟩
theorem sc_l_corner : FnScope ["_law_cell", "_law_size", "_law_right", "_law_up", "_law_a", "_law_b"] ["_law_cell", "_law_size", "_law_right", "_law_up"] (defScope s_l_corner) := ⟨rfl, rfl, rfl, by decide +kernel, rfl, by decide +kernel, by decide +kernel⟩
theorem ok_l_corner (T : Txt K mg t) : FnOk P w K mg base CX0 3 t.f_l_corner t.d_l_corner ["_law_cell", "_law_size", "_law_right", "_law_up"] sp_l_corner := by
  refine T.l_corner.F.ok (k := 2) sc_l_corner (fun vs H Q E h => ?_) (fun cdv A outer s H vs Q E hr h => ?_)
  · obtain ⟨v, w, i, j, s0, s1, g, f, rfl, _⟩ := h
    rfl
  · obtain ⟨v, w, i, j, s0, s1, g, f, rfl, ⟨a, rfl, ha⟩, ⟨b, rfl, hb⟩, bi, bj, b0, b1, bg, bf, h1, k⟩ := h
    refine ⟨_, (@pss_cons _ _ _ _ _ (@ps_set _ _ 4 _ _ _ _ sc_l_corner.nd rfl (Or.inl rfl) (@pe_op _ _ _ _ _ _ _ _ op_mulB (@pe_op _ _ _ _ _ _ _ _ op_add (@pe_op _ _ _ _ _ _ _ _ op_sub (@pe_op _ _ _ _ _ _ _ _ op_mulB (@pe_int _ _ _ _) (@pe_ix _ _ _ _ _ _ _ ix_tup (pv 0) (@pe_int _ _ _ _) (fun _ _ => rfl))) (@pe_int _ _ _ _)) (@pe_op _ _ _ _ _ _ _ _ op_mulB (@pe_int _ _ _ _) (pv 2))) (@pe_ix _ _ _ _ _ _ _ ix_tup (pv 1) (@pe_int _ _ _ _) (fun _ _ => rfl))) (by rfl) (by first | exact .inl rfl | exact .inr rfl | assumption)) (@pss_cons _ _ _ _ _ (@ps_set _ _ 5 _ _ _ _ sc_l_corner.nd rfl (Or.inl rfl) (@pe_op _ _ _ _ _ _ _ _ op_mulB (@pe_op _ _ _ _ _ _ _ _ op_add (@pe_op _ _ _ _ _ _ _ _ op_sub (@pe_op _ _ _ _ _ _ _ _ op_mulB (@pe_int _ _ _ _) (@pe_ix _ _ _ _ _ _ _ ix_tup (pv 0) (@pe_int _ _ _ _) (fun _ _ => rfl))) (@pe_int _ _ _ _)) (@pe_op _ _ _ _ _ _ _ _ op_mulB (@pe_int _ _ _ _) (pv 3))) (@pe_ix _ _ _ _ _ _ _ ix_tup (pv 1) (@pe_int _ _ _ _) (fun _ _ => rfl))) (by rfl) (by first | exact .inl rfl | exact .inr rfl | assumption)) (@pss_one _ _ _ (@ps_ret _ _ _ _ (@pe_fn _ _ _ _ _ _ _ _ _ _ _ _ _ _ T.l_point (ok_l_point T) hr (by decide) (@pa_cons _ _ _ _ _ (pv 4) (@pa_cons _ _ _ _ _ (pv 5) (@pa_cons _ _ _ _ _ (@pe_op _ _ _ _ _ _ _ _ op_mulB (@pe_int _ _ _ _) (@pe_ix _ _ _ _ _ _ _ ix_tup (pv 1) (@pe_int _ _ _ _) (fun _ _ => rfl))) (@pa_nil _) star_bin) star_name) star_name) (by rfl) (by decide) (by rfl) (by rfl)))))), ?_⟩
    have b2 : Bd 2 (2 : Int) := by unfold Bd; decide
    have key : ∀ {u v : Int}, Bd 400 u → Bd 8 v → Bd 410 (2 * u - 1 + 2 * v) := fun {u v} bu bv => by
      have h1 := ((b2.mul bu).sub (Bd.mono (m := 2) (i := 1) (by unfold Bd; decide) (by decide : 2 ≤ 2 + 400)))
      exact (h1.add ((b2.mul bv).mono (by decide))).mono (by decide)
    refine st_set (pu_mul (pu_add (pu_sub (pu_mul pu_c (pu_ixT (pu_v rfl) pu_c (SqT.of (ha)) rfl) (mulOk_of (b2) (bi) (by decide))) pu_c) (pu_mul pu_c (pu_v rfl) (mulOk_of (b2) (bg) (by decide)))) (pu_ixT (pu_v rfl) pu_c (SqT.of (hb)) rfl) (mulOk_of (key bi bg) b0 (by decide))) ?_
    refine st_set (pu_mul (pu_add (pu_sub (pu_mul pu_c (pu_ixT (pu_v rfl) pu_c (SqT.of (ha)) rfl) (mulOk_of (b2) (bj) (by decide))) pu_c) (pu_mul pu_c (pu_v rfl) (mulOk_of (b2) (bf) (by decide)))) (pu_ixT (pu_v rfl) pu_c (SqT.of (hb)) rfl) (mulOk_of (key bj bf) b0 (by decide))) ?_
    refine st_retG (gv_point (pa_c (pu_v rfl) (pa_c (pu_v rfl) (pa_c (pu_mul pu_c (pu_ixT (pu_v rfl) pu_c (SqT.of (hb)) rfl) (mulOk_of (b2) (b1) (by decide))) pa_n))) (by omega) ((b2.mul b1).mono (by decide))) ?_
    rintro r H' ⟨s, q, hq, iq⟩
    refine k r H' s ?_
    unfold cor
    rw [pb_is3 (by omega) iq]
    exact hq
def sp_l_border_met : Sp := fun vs H Q _ => ∃ va vb vc vd a b c d, vs = [va, vb, vc, vd] ∧ AtP H va a ∧ AtP H vb b ∧ AtP H vc c ∧ AtP H vd d ∧ Sz 900 a ∧ Sz 900 b ∧ Sz 900 c ∧ Sz 900 d ∧ 0 < a.z ∧ 0 < c.z ∧ Q (.bl (bordB a b c d)) H
theorem gt_bord {σ : L2.St} {H : Hp} {tc : TE} {va vb vc : V} {a b c d : Pt3} (h0 : σ[0]? = some (some va)) (h1 : σ[1]? = some (some vb)) (h4 : σ[4]? = some (some vc)) (hd : Gv tc σ H (fun r H' => Same H H' ∧ AtP H' r d)) (ha : AtP H va a) (hb : AtP H vb b) (hc : AtP H vc c) (za : Sz 900 a) (zb : Sz 900 b) (zc : Sz 900 c) (zd : Sz 900 d) (a0 : 0 < a.z) (c0 : 0 < c.z) :
    GvT (tB (tCall sp_l_border_met [] E0 (tCons (tVar 0) (tCons (tVar 1) (tCons (tVar 4) (tCons tc tNil)))))) σ H (fun x H' => Same H H' ∧ x = bordB a b c d) := fun Q f =>
  ⟨va, h0, vb, h1, vc, h4, hd _ fun v H' r => ⟨va, vb, vc, v, a, b, c, d, rfl, TupT.same ha r.1, TupT.same hb r.1, TupT.same hc r.1, r.2, za, zb, zc, zd, a0, c0, ⟨_, rfl, f _ _ ⟨r.1, rfl⟩⟩⟩⟩
theorem sc_l_border_met : FnScope ["_law_p", "_law_q", "_law_low", "_law_high"] ["_law_p", "_law_q", "_law_low", "_law_high"] (defScope s_l_border_met) := ⟨rfl, rfl, rfl, by decide +kernel, rfl, by decide +kernel, by decide +kernel⟩
theorem ok_l_border_met (T : Txt K mg t) : FnOk P w K mg base CX0 4 t.f_l_border_met t.d_l_border_met ["_law_p", "_law_q", "_law_low", "_law_high"] sp_l_border_met := by
  refine T.l_border_met.F.ok (k := 3) sc_l_border_met (fun vs H Q E h => ?_) (fun cdv A outer s H vs Q E hr h => ?_)
  · obtain ⟨va, vb, vc, vd, a, b, c, d, rfl, _⟩ := h
    rfl
  · obtain ⟨va, vb, vc, vd, a, b, c, d, rfl, ha, hb, hc, hd, za, zb, zc, zd, a0, c0, k⟩ := h
    refine ⟨_, (@pss_cons _ _ _ _ _ (@ps_if _ _ _ _ _ _ _ _ (@pt_not _ _ _ _ (@pt_val _ _ _ (@pe_fn _ _ _ _ _ _ _ _ _ _ _ _ _ _ T.l_touch (ok_l_touch T) hr (by decide) (@pa_cons _ _ _ _ _ (pv 0) (@pa_cons _ _ _ _ _ (pv 1) (@pa_cons _ _ _ _ _ (pv 2) (@pa_cons _ _ _ _ _ (pv 3) (@pa_nil _) star_name) star_name) star_name) star_name) (by rfl) (by decide) (by rfl) (by rfl)) (by intro _; rfl))) (@pss_one _ _ _ (@ps_ret _ _ _ _ (@pe_bl _ _ _ _))) (@pss_nil _)) (@pss_cons _ _ _ _ _ (@ps_if _ _ _ _ _ _ _ _ (@pt_not _ _ _ _ (@pt_val _ _ _ (@pe_fn _ _ _ _ _ _ _ _ _ _ _ _ _ _ T.l_on (ok_l_on T) hr (by decide) (@pa_cons _ _ _ _ _ (pv 3) (@pa_cons _ _ _ _ _ (pv 0) (@pa_cons _ _ _ _ _ (pv 1) (@pa_nil _) star_name) star_name) star_name) (by rfl) (by decide) (by rfl) (by rfl)) (by intro _; rfl))) (@pss_one _ _ _ (@ps_ret _ _ _ _ (@pe_bl _ _ _ _))) (@pss_nil _)) (@pss_cons _ _ _ _ _ (@ps_if _ _ _ _ _ _ _ _ (@pt_cmpR _ _ _ _ _ _ _ _ op_ne (@pe_fn _ _ _ _ _ _ _ _ _ _ _ _ _ _ T.l_turn (ok_l_turn T) hr (by decide) (@pa_cons _ _ _ _ _ (pv 0) (@pa_cons _ _ _ _ _ (pv 1) (@pa_cons _ _ _ _ _ (pv 2) (@pa_nil _) star_name) star_name) star_name) (by rfl) (by decide) (by rfl) (by rfl)) (@pe_int _ _ _ _) (nomark _)) (@pss_one _ _ _ (@ps_ret _ _ _ _ (@pe_bl _ _ _ _))) (@pss_nil _)) (@pss_one _ _ _ (@ps_ret _ _ _ _ (@pe_or _ _ _ _ _ _ _ (@pe_fn _ _ _ _ _ _ _ _ _ _ _ _ _ _ T.l_ahead (ok_l_ahead T) hr (by decide) (@pa_cons _ _ _ _ _ (pv 0) (@pa_cons _ _ _ _ _ (pv 3) (@pa_nil _) star_name) star_name) (by rfl) (by decide) (by rfl) (by rfl)) (@pe_one _ _ _ _ _ (@pe_fn _ _ _ _ _ _ _ _ _ _ _ _ _ _ T.l_ahead (ok_l_ahead T) hr (by decide) (@pa_cons _ _ _ _ _ (pv 1) (@pa_cons _ _ _ _ _ (pv 3) (@pa_nil _) star_name) star_name) (by rfl) (by decide) (by rfl) (by rfl))))))))), ?_⟩
    have w : ∀ {p : Pt3}, Sz 900 p → Sz 4000 p := fun h => h.mono (by decide)
    have A3 : ∀ {σ : L2.St} {Hx : Hp} {i j k : Nat} {w x y : V}, σ[i]? = some (some w) → σ[j]? = some (some x) → σ[k]? = some (some y) → PuA (tCons (tVar i) (tCons (tVar j) (tCons (tVar k) tNil))) σ Hx [w, x, y] := fun h1 h2 h3 => pa_c (pu_v h1) (pa_c (pu_v h2) (pa_c (pu_v h3) pa_n))
    unfold bordB at k
    refine st_ifN (pt_n (pt_b (pu_call (pa_c (pu_v rfl) (pa_c (pu_v rfl) (pa_c (pu_v rfl) (pa_c (pu_v rfl) pa_n)))) fun Q f => ⟨va, vb, vc, vd, a, b, c, d, rfl, ha, hb, hc, hd, za, zb, zc, zd, a0, c0, f⟩))) (fun e => st_ret pu_c ?_) fun e => ?_
    · rw [Bool.not_eq_true'] at e
      rw [if_pos e] at k
      exact k
    rw [Bool.not_eq_false'] at e
    rw [if_neg (by rw [e]; decide)] at k
    refine st_ifN (pt_n (pt_b (pu_on (A3 rfl rfl rfl) hd ha hb (w zd) za zb a0))) (fun e => st_ret pu_c ?_) fun e => ?_
    · rw [Bool.not_eq_true'] at e
      rw [if_pos e] at k
      exact k
    rw [Bool.not_eq_false'] at e
    rw [if_neg (by rw [e]; decide)] at k
    refine st_ifN (pt_t (pu_neI (pu_tn (A3 rfl rfl rfl) ha hb hc za zb zc a0) pu_c)) (fun e => st_ret pu_c ?_) fun e => ?_
    · rw [Bool.not_eq_true', decide_eq_false_iff_not] at e
      rw [if_pos e] at k
      exact k
    rw [Bool.not_eq_false', decide_eq_true_iff] at e
    rw [if_neg (fun z => z e)] at k
    exact st_ret (pu_or (pu_lahd (pa_c (pu_v rfl) (pa_c (pu_v rfl) pa_n)) ha hd (w za) (w zd)) fun _ => pu_lahd (pa_c (pu_v rfl) (pa_c (pu_v rfl) pa_n)) hb hd (w zb) (w zd)) k
def sp_l_through : Sp := fun vs H Q _ => ∃ vp vq vc vz p q i j s0 s1, vs = [vp, vq, vc, vz] ∧ AtP H vp p ∧ AtP H vq q ∧ TupT H vc [i, j] ∧ TupT H vz [s0, s1] ∧ Sz 400 p ∧ Sz 400 q ∧ Bd 400 i ∧ Bd 400 j ∧ Bd 400 s0 ∧ Bd 400 s1 ∧ 0 < p.z ∧ 0 < s1 ∧
  ∀ b H', Same H H' → (b = true ↔ Thr p q (cor i j s0 s1 0 0) (cor i j s0 s1 1 0) (cor i j s0 s1 0 1) (cor i j s0 s1 1 1) i j s0 s1) → Q (.bl b) H'
def corN (i j s0 s1 : Int) (n : Nat) : Pt3 := cor i j s0 s1 ((0 + (n : Int)).fmod 2) ((0 + (n : Int)).fdiv 2)
def sgs (p q : Pt3) (i j s0 s1 : Int) (n : Nat) : List Int := (List.range n).map fun m => sgn (det p q (corN i j s0 s1 m))
theorem sgs_next (p q : Pt3) (i j s0 s1 : Int) (n : Nat) : sgs p q i j s0 s1 (n + 1) = sgs p q i j s0 s1 n ++ [sgn (det p q (corN i j s0 s1 n))] := by
  unfold sgs
  rw [List.range_succ, List.map_append]
  rfl
theorem sgs4 (p q : Pt3) (i j s0 s1 : Int) : sgs p q i j s0 s1 4 = [sgn (det p q (cor i j s0 s1 0 0)), sgn (det p q (cor i j s0 s1 1 0)), sgn (det p q (cor i j s0 s1 0 1)), sgn (det p q (cor i j s0 s1 1 1))] := rfl
theorem sc_l_through : FnScope ["_law_p", "_law_q", "_law_cell", "_law_size", "_law_signs", "_law_at", "_law_k", "_law_low", "_law_high", "_law_ends"] ["_law_p", "_law_q", "_law_cell", "_law_size"] (defScope s_l_through) := ⟨rfl, rfl, rfl, by decide +kernel, rfl, by decide +kernel, by decide +kernel⟩
theorem ok_l_through (T : Txt K mg t) : FnOk P w K mg base CX0 4 t.f_l_through t.d_l_through ["_law_p", "_law_q", "_law_cell", "_law_size"] sp_l_through := by
  refine T.l_through.F.ok (k := 3) sc_l_through (fun vs H Q E h => ?_) (fun cdv A outer s H vs Q E hr h => ?_)
  · obtain ⟨vp, vq, vc, vz, p, q, i, j, s0, s1, rfl, _⟩ := h
    rfl
  · obtain ⟨vp, vq, vc, vz, p, q, i, j, s0, s1, rfl, hp, hq, hc, hz, zp, zq, bi, bj, b0, b1, p0, h1, k⟩ := h
    refine ⟨_, (@pss_cons _ _ _ _ _ (@ps_set _ _ 4 _ _ _ _ sc_l_through.nd rfl (Or.inl rfl) (@pe_lst _ _ _ _ (@pa_nil _)) (by rfl) (by first | exact .inl rfl | exact .inr rfl | assumption)) (@pss_cons _ _ _ _ _ (@ps_for _ _ _ _ _ _ _ _ PassesOwn.never rfl (@pi_range1 _ _ _ _ _ _ rfl T.b_range (@pa_cons _ _ _ _ _ (@pe_int _ _ _ _) (@pa_nil _) star_con) (by rfl)) (@pg_name _ _ 5 _ sc_l_through.nd rfl (Or.inl rfl) (by first | exact .inl rfl | exact .inr rfl | assumption)) (@pss_one _ _ _ (@ps_expr _ _ _ _ (@pe_bm _ _ _ _ _ _ _ _ _ _ _ _ PySem.F.plainAttrs_list PySem.F.slot_list_append PySem.F.type_list_append mt_append (pv 4) (@pa_cons _ _ _ _ _ (@pe_fn _ _ _ _ _ _ _ _ _ _ _ _ _ _ T.l_turn (ok_l_turn T) hr (by decide) (@pa_cons _ _ _ _ _ (pv 0) (@pa_cons _ _ _ _ _ (pv 1) (@pa_cons _ _ _ _ _ (@pe_fn _ _ _ _ _ _ _ _ _ _ _ _ _ _ T.l_corner (ok_l_corner T) hr (by decide) (@pa_cons _ _ _ _ _ (pv 2) (@pa_cons _ _ _ _ _ (pv 3) (@pa_cons _ _ _ _ _ (@pe_op _ _ _ _ _ _ _ _ op_modN (pv 5) (@pe_int _ _ _ _)) (@pa_cons _ _ _ _ _ (@pe_op _ _ _ _ _ _ _ _ op_fdivB (pv 5) (@pe_int _ _ _ _)) (@pa_nil _) star_bin) star_bin) star_name) star_name) (by rfl) (by decide) (by rfl) (by rfl)) (@pa_nil _) star_call) star_name) star_name) (by rfl) (by decide) (by rfl) (by rfl)) (@pa_nil _) star_call) (by rfl) (by rfl) (by rfl) (by rfl) (by rfl)) (by rfl))) (by intro _; rfl)) (@pss_cons _ _ _ _ _ (@ps_if _ _ _ _ _ _ _ _ (PW.pt (@pw_or _ _ _ _ _ _ _ (@pt_cmpR _ _ _ _ _ _ _ _ op_notIn_seq (@pe_int _ _ _ _) (pv 4) rfl) (@pw_or1 _ _ _ _ (@pt_cmpR _ _ _ _ _ _ _ _ op_notIn_seq (@pe_un _ _ _ _ _ _ un_neg (@pe_int _ _ _ _)) (pv 4) rfl)))) (@pss_one _ _ _ (@ps_ret _ _ _ _ (@pe_bl _ _ _ _))) (@pss_nil _)) (@pss_cons _ _ _ _ _ (@ps_for _ _ _ _ _ _ _ _ PassesOwn.never rfl (@pi_range1 _ _ _ _ _ _ rfl T.b_range (@pa_cons _ _ _ _ _ (@pe_int _ _ _ _) (@pa_nil _) star_con) (by rfl)) (@pg_name _ _ 6 _ sc_l_through.nd rfl (Or.inl rfl) (by first | exact .inl rfl | exact .inr rfl | assumption)) (@pss_cons _ _ _ _ _ (@ps_set _ _ 7 _ _ _ _ sc_l_through.nd rfl (Or.inl rfl) (@pe_op _ _ _ _ _ _ _ _ op_mulB (@pe_op _ _ _ _ _ _ _ _ op_sub (@pe_op _ _ _ _ _ _ _ _ op_mulB (@pe_int _ _ _ _) (@pe_ix _ _ _ _ _ _ _ ix_tup (pv 2) (pv 6) (fun _ _ => rfl))) (@pe_int _ _ _ _)) (@pe_ix _ _ _ _ _ _ _ ix_tup (pv 3) (@pe_int _ _ _ _) (fun _ _ => rfl))) (by rfl) (by first | exact .inl rfl | exact .inr rfl | assumption)) (@pss_cons _ _ _ _ _ (@ps_set _ _ 8 _ _ _ _ sc_l_through.nd rfl (Or.inl rfl) (@pe_op _ _ _ _ _ _ _ _ op_mulB (@pe_op _ _ _ _ _ _ _ _ op_add (@pe_op _ _ _ _ _ _ _ _ op_mulB (@pe_int _ _ _ _) (@pe_ix _ _ _ _ _ _ _ ix_tup (pv 2) (pv 6) (fun _ _ => rfl))) (@pe_int _ _ _ _)) (@pe_ix _ _ _ _ _ _ _ ix_tup (pv 3) (@pe_int _ _ _ _) (fun _ _ => rfl))) (by rfl) (by first | exact .inl rfl | exact .inr rfl | assumption)) (@pss_cons _ _ _ _ _ (@ps_set _ _ 9 _ _ _ _ sc_l_through.nd rfl (Or.inl rfl) (@pe_lst _ _ _ _ (@pa_cons _ _ _ _ _ (@pe_tup _ _ _ _ _ (@pa_cons _ _ _ _ _ (@pe_op _ _ _ _ _ _ _ _ op_mulB (@pe_op _ _ _ _ _ _ _ _ op_mulB (@pe_int _ _ _ _) (@pe_ix _ _ _ _ _ _ _ ix_tup (pv 3) (@pe_int _ _ _ _) (fun _ _ => rfl))) (@pe_ix _ _ _ _ _ _ _ ix_tup (pv 0) (pv 6) (fun _ _ => rfl))) (@pa_cons _ _ _ _ _ (@pe_ix _ _ _ _ _ _ _ ix_tup (pv 0) (@pe_int _ _ _ _) (fun _ _ => rfl)) (@pa_nil _) star_sub) star_bin)) (@pa_cons _ _ _ _ _ (@pe_tup _ _ _ _ _ (@pa_cons _ _ _ _ _ (@pe_op _ _ _ _ _ _ _ _ op_mulB (@pe_op _ _ _ _ _ _ _ _ op_mulB (@pe_int _ _ _ _) (@pe_ix _ _ _ _ _ _ _ ix_tup (pv 3) (@pe_int _ _ _ _) (fun _ _ => rfl))) (@pe_ix _ _ _ _ _ _ _ ix_tup (pv 1) (pv 6) (fun _ _ => rfl))) (@pa_cons _ _ _ _ _ (@pe_ix _ _ _ _ _ _ _ ix_tup (pv 1) (@pe_int _ _ _ _) (fun _ _ => rfl)) (@pa_nil _) star_sub) star_bin)) (@pa_nil _) star_tup) star_tup)) (by rfl) (by first | exact .inl rfl | exact .inr rfl | assumption)) (@pss_cons _ _ _ _ _ (@ps_if _ _ _ _ _ _ _ _ (PW.pt (@pw_and _ _ _ _ _ _ _ (@pt_cmpR _ _ _ _ _ _ _ _ op_le (@pe_ix _ _ _ _ _ _ _ ix_tup (@pe_ix _ _ _ _ _ _ _ ix_list (pv 9) (@pe_int _ _ _ _) (fun _ _ => rfl)) (@pe_int _ _ _ _) (fun _ _ => rfl)) (@pe_op _ _ _ _ _ _ _ _ op_mulB (pv 7) (@pe_ix _ _ _ _ _ _ _ ix_tup (@pe_ix _ _ _ _ _ _ _ ix_list (pv 9) (@pe_int _ _ _ _) (fun _ _ => rfl)) (@pe_int _ _ _ _) (fun _ _ => rfl))) (nomark _)) (@pw_and1 _ _ _ _ (@pt_cmpR _ _ _ _ _ _ _ _ op_le (@pe_ix _ _ _ _ _ _ _ ix_tup (@pe_ix _ _ _ _ _ _ _ ix_list (pv 9) (@pe_int _ _ _ _) (fun _ _ => rfl)) (@pe_int _ _ _ _) (fun _ _ => rfl)) (@pe_op _ _ _ _ _ _ _ _ op_mulB (pv 7) (@pe_ix _ _ _ _ _ _ _ ix_tup (@pe_ix _ _ _ _ _ _ _ ix_list (pv 9) (@pe_int _ _ _ _) (fun _ _ => rfl)) (@pe_int _ _ _ _) (fun _ _ => rfl))) (nomark _))))) (@pss_one _ _ _ (@ps_ret _ _ _ _ (@pe_bl _ _ _ _))) (@pss_nil _)) (@pss_one _ _ _ (@ps_if _ _ _ _ _ _ _ _ (PW.pt (@pw_and _ _ _ _ _ _ _ (@pt_cmpR _ _ _ _ _ _ _ _ op_ge (@pe_ix _ _ _ _ _ _ _ ix_tup (@pe_ix _ _ _ _ _ _ _ ix_list (pv 9) (@pe_int _ _ _ _) (fun _ _ => rfl)) (@pe_int _ _ _ _) (fun _ _ => rfl)) (@pe_op _ _ _ _ _ _ _ _ op_mulB (pv 8) (@pe_ix _ _ _ _ _ _ _ ix_tup (@pe_ix _ _ _ _ _ _ _ ix_list (pv 9) (@pe_int _ _ _ _) (fun _ _ => rfl)) (@pe_int _ _ _ _) (fun _ _ => rfl))) (nomark _)) (@pw_and1 _ _ _ _ (@pt_cmpR _ _ _ _ _ _ _ _ op_ge (@pe_ix _ _ _ _ _ _ _ ix_tup (@pe_ix _ _ _ _ _ _ _ ix_list (pv 9) (@pe_int _ _ _ _) (fun _ _ => rfl)) (@pe_int _ _ _ _) (fun _ _ => rfl)) (@pe_op _ _ _ _ _ _ _ _ op_mulB (pv 8) (@pe_ix _ _ _ _ _ _ _ ix_tup (@pe_ix _ _ _ _ _ _ _ ix_list (pv 9) (@pe_int _ _ _ _) (fun _ _ => rfl)) (@pe_int _ _ _ _) (fun _ _ => rfl))) (nomark _))))) (@pss_one _ _ _ (@ps_ret _ _ _ _ (@pe_bl _ _ _ _))) (@pss_nil _))))))) (by intro _; rfl)) (@pss_one _ _ _ (@ps_ret _ _ _ _ (@pe_bl _ _ _ _))))))), ?_⟩
    have b2 : Bd 2 (2 : Int) := by unfold Bd; decide
    refine st_setG (gv_lst pa_n (Nat.zero_le _)) ?_
    rintro _ _ ⟨l, hl, rfl, rfl⟩
    refine st_range (n := 4) (pa_c pu_c pa_n) (by decide) (by decide) (fun n σ H' => Same H H' ∧ H' l = some (.lst ((sgs p q i j s0 s1 n).map V.int)) ∧ ∃ d : Option V, σ = [some vp, some vq, some vc, some vz, some (.ref l), d, none, none, none, none]) ⟨Same.upd hl, upd_same, none, rfl⟩ ?_ ?_
    · rintro n σ H1 hn ⟨s, e1, d, rfl⟩
      have hn' : n < 4 := hn
      have bm : Bd 8 ((0 + (n : Int)).fmod 2) := by
        rw [Int.fmod_eq_emod_of_nonneg _ (by decide)]
        unfold Bd; omega
      have bd : Bd 8 ((0 + (n : Int)).fdiv 2) := by
        rw [Int.fdiv_eq_ediv_of_nonneg _ (by decide)]
        unfold Bd; omega
      refine st_app1 (R := fun v H' => v = .int (sgn (det p q (corN i j s0 s1 n))) ∧ Same H1 H') (pu_v rfl) e1 (gv_callA (RA := fun vs H' => ∃ vr, vs = [vp, vq, vr] ∧ Same H1 H' ∧ AtP H' vr (corN i j s0 s1 n)) (fun Q f => pu_v (v := vp) rfl _ (pu_v (v := vq) rfl _ (gv_corner (pa_c (pu_v rfl) (pa_c (pu_v rfl) (pa_c (pu_mod (pu_v rfl) pu_c (by decide)) (pa_c (pu_fdiv (pu_v rfl) pu_c ⟨by decide, b2.mono (by decide)⟩) pa_n)))) (hc.same s) (hz.same s) bi bj b0 b1 bm bd h1 _ fun v H' r => f _ _ ⟨v, rfl, r.1, r.2⟩))) ?_) ?_
      · rintro _ H2 ⟨vr, rfl, s2, hr'⟩ Q f
        exact ⟨vp, vq, vr, p, q, _, rfl, (TupT.same hp s).same s2, (TupT.same hq s).same s2, hr', zp.mono (by decide), zq.mono (by decide), (cor_sz h1 bi bj b0 b1 bm bd).mono (by decide), p0, f _ _ ⟨rfl, s2⟩⟩
      · rintro _ H2 ⟨rfl, s2⟩
        refine ⟨_, s2 _ _ e1, ?_, ?_, ?_, _, rfl⟩
        · rw [List.length_map]
          unfold sgs
          rw [List.length_map, List.length_range]
          exact Nat.lt_trans hn' (by decide)
        · refine fun b o hb => ?_
          rw [upd_ne (ne_of_none hb hl)]
          exact s2 _ _ (s _ _ hb)
        · rw [upd_same, sgs_next, List.map_append]
          rfl
    rintro σ H1 ⟨s, e1, d, rfl⟩
    have e1' : H1 l = some (.lst ((sgs p q i j s0 s1 4).map V.int)) := e1
    rw [sgs4] at e1'
    refine st_ifN (pt_or (pt_t (pu_notIn pu_c (pu_v rfl) e1')) fun _ => pt_t (pu_notIn (pu_neg pu_c) (pu_v rfl) e1')) (fun e => st_ret pu_c (k false H1 s ?_)) fun e => ?_
    · constructor
      · intro z; cases z
      · rintro ⟨⟨t1, t2⟩, _⟩
        rw [Bool.or_eq_true, Bool.not_eq_true', Bool.not_eq_true', decide_eq_false_iff_not, decide_eq_false_iff_not] at e
        rcases e with e | e
        · exact absurd t1 e
        · exact absurd t2 e
    rw [Bool.or_eq_false_iff, Bool.not_eq_false', Bool.not_eq_false', decide_eq_true_iff, decide_eq_true_iff] at e
    refine st_range (n := 2) (pa_c pu_c pa_n) (by decide) (by decide) (fun n σ H' => Same H H' ∧ ((0 < n → AxP p.x p.z q.x q.z i s0 s1) ∧ (1 < n → AxP p.y p.z q.y q.z j s0 s1)) ∧ ∃ a b c f : Option V, σ = [some vp, some vq, some vc, some vz, some (.ref l), d, a, b, c, f]) ⟨s, ⟨by omega, by omega⟩, none, none, none, none, rfl⟩ ?_ ?_
    · rintro n σ H2 hn ⟨sn, ⟨k1, k2⟩, va, vb, vd, vf, rfl⟩
      obtain ⟨ap, rfl, hap⟩ := TupT.same hp sn
      obtain ⟨aq, rfl, haq⟩ := TupT.same hq sn
      obtain ⟨ac, rfl, hac⟩ := hc.same sn
      obtain ⟨az, rfl, haz⟩ := hz.same sn
      obtain ⟨x, y, c, ex, ey, ec, bx, by', bc, kz⟩ : ∃ x y c : Int, atI ([p.x, p.y, p.z].map V.int) (0 + (n : Int)) = some (.int x) ∧ atI ([q.x, q.y, q.z].map V.int) (0 + (n : Int)) = some (.int y) ∧ atI ([i, j].map V.int) (0 + (n : Int)) = some (.int c) ∧ Bd 400 x ∧ Bd 400 y ∧ Bd 400 c ∧ ((n = 0 ∧ x = p.x ∧ y = q.x ∧ c = i) ∨ (n = 1 ∧ x = p.y ∧ y = q.y ∧ c = j)) := by
        have hn' : n = 0 ∨ n = 1 := by
          have : n < 2 := hn
          omega
        rcases hn' with rfl | rfl
        · exact ⟨p.x, q.x, i, rfl, rfl, rfl, zp.x, zq.x, bi, .inl ⟨rfl, rfl, rfl, rfl⟩⟩
        · exact ⟨p.y, q.y, j, rfl, rfl, rfl, zp.y, zq.y, bj, .inr ⟨rfl, rfl, rfl, rfl⟩⟩
      have bq1 : Bd 410 (2 * c - 1) := ((b2.mul bc).sub (Bd.mono (m := 2) (by unfold Bd; decide) (by decide))).mono (by decide)
      have bq2 : Bd 410 (2 * c + 1) := ((b2.mul bc).add (Bd.mono (m := 2) (by unfold Bd; decide) (by decide))).mono (by decide)
      refine st_set (pu_mul (pu_sub (pu_mul pu_c (pu_ixT (pu_v rfl) (pu_v rfl) (SqT.of hac) ec) (mulOk_of (b2) (bc) (by decide))) pu_c) (pu_ixT (pu_v rfl) pu_c (SqT.of (haz)) rfl) (mulOk_of (bq1) (b0) (by decide))) ?_
      refine st_set (pu_mul (pu_add (pu_mul pu_c (pu_ixT (pu_v rfl) (pu_v rfl) (SqT.of hac) ec) (mulOk_of (b2) (bc) (by decide))) pu_c) (pu_ixT (pu_v rfl) pu_c (SqT.of (haz)) rfl) (mulOk_of (bq2) (b0) (by decide))) ?_
      refine st_setG (gv_ends (fun _ s => have g := s _ _ haz; have g2 := s _ _ hap; pu_mul (pu_mul pu_c (pu_ixT (pu_v rfl) pu_c (SqT.of (g)) rfl) (mulOk_of (b2) (b1) (by decide))) (pu_ixT (pu_v rfl) (pu_v rfl) (SqT.of g2) ex) (mulOk_of (b2.mul b1) (bx) (by decide))) (fun _ s => have g2 := s _ _ hap; (pu_ixT (pu_v rfl) pu_c (SqT.of (g2)) rfl)) (fun _ s => have g := s _ _ haz; have g2 := s _ _ haq; pu_mul (pu_mul pu_c (pu_ixT (pu_v rfl) pu_c (SqT.of (g)) rfl) (mulOk_of (b2) (b1) (by decide))) (pu_ixT (pu_v rfl) (pu_v rfl) (SqT.of g2) ey) (mulOk_of (b2.mul b1) (by') (by decide))) (fun _ s => have g2 := s _ _ haq; (pu_ixT (pu_v rfl) pu_c (SqT.of (g2)) rfl))) ?_
      rintro _ H3 ⟨s3, ae, b, c', rfl, he, hb, hc'⟩
      have E0' : ∀ {σ : L2.St} {m : Int} {v : Int}, σ[9]? = some (some (.ref ae)) → atI ([2 * s1 * x, p.z].map V.int) m = some (.int v) → Pu (tOp (rIxT K) (tOp (rIxL K) (tVar 9) (tC (.int 0))) (tC (.int m))) σ H3 (.int v) := fun h e => pu_ixT (pu_ixL (pu_v h) pu_c (SqL.of he) rfl) pu_c (SqT.of hb) e
      have E1' : ∀ {σ : L2.St} {m : Int} {v : Int}, σ[9]? = some (some (.ref ae)) → atI ([2 * s1 * y, q.z].map V.int) m = some (.int v) → Pu (tOp (rIxT K) (tOp (rIxL K) (tVar 9) (tC (.int 1))) (tC (.int m))) σ H3 (.int v) := fun h e => pu_ixT (pu_ixL (pu_v h) pu_c (SqL.of he) rfl) pu_c (SqT.of hc') e
      have bl := bq1.mul b0
      have bh := bq2.mul b0
      have ax : AxP x p.z y q.z c s0 s1 ↔ ((n = 0 ∧ AxP p.x p.z q.x q.z i s0 s1) ∨ (n = 1 ∧ AxP p.y p.z q.y q.z j s0 s1)) := by
        rcases kz with ⟨rfl, rfl, rfl, rfl⟩ | ⟨rfl, rfl, rfl, rfl⟩ <;> simp
      refine st_ifN (pt_and (pt_t (pu_le (E0' rfl rfl) (pu_mul (pu_v rfl) (E0' rfl rfl) (mulOk_of (bl) (zp.z) (by decide))))) fun _ => pt_t (pu_le (E1' rfl rfl) (pu_mul (pu_v rfl) (E1' rfl rfl) (mulOk_of (bl) (zq.z) (by decide))))) (fun z => st_ret pu_c (k false H3 (sn.trans s3) ?_)) fun z => ?_
      · constructor
        · intro z; cases z
        · rintro ⟨_, t1, t2⟩
          rw [Bool.and_eq_true, decide_eq_true_iff, decide_eq_true_iff] at z
          rcases kz with ⟨rfl, rfl, rfl, rfl⟩ | ⟨rfl, rfl, rfl, rfl⟩
          · exact absurd z t1.1
          · exact absurd z t2.1
      refine st_ifN1 (pt_and (pt_t (pu_ge (E0' rfl rfl) (pu_mul (pu_v rfl) (E0' rfl rfl) (mulOk_of (bh) (zp.z) (by decide))))) fun _ => pt_t (pu_ge (E1' rfl rfl) (pu_mul (pu_v rfl) (E1' rfl rfl) (mulOk_of (bh) (zq.z) (by decide))))) (fun z => st_ret pu_c (k false H3 (sn.trans s3) ?_)) fun z2 => ⟨sn.trans s3, ?_, _, _, _, _, rfl⟩
      · constructor
        · intro z; cases z
        · rintro ⟨_, t1, t2⟩
          rw [Bool.and_eq_true, decide_eq_true_iff, decide_eq_true_iff] at z
          rcases kz with ⟨rfl, rfl, rfl, rfl⟩ | ⟨rfl, rfl, rfl, rfl⟩
          · exact absurd z t1.2
          · exact absurd z t2.2
      · have ok : AxP x p.z y q.z c s0 s1 := by
          constructor
          · rintro ⟨z3, z4⟩
            rw [decide_eq_true z3, decide_eq_true z4] at z
            cases z
          · rintro ⟨z3, z4⟩
            rw [decide_eq_true z3, decide_eq_true z4] at z2
            cases z2
        rcases ax.mp ok with ⟨rfl, o⟩ | ⟨rfl, o⟩
        · exact ⟨fun _ => o, fun z => by omega⟩
        · exact ⟨fun _ => k1 (by omega), fun _ => o⟩
    · rintro σ H2 ⟨sn, ⟨k1, k2⟩, va, vb, vd, vf, rfl⟩
      exact st_ret pu_c (k true H2 sn ⟨fun _ => ⟨e, k1 (by decide), k2 (by decide)⟩, fun _ => rfl⟩)
def sp_l_meets : Sp := fun vs H Q _ => ∃ vp vq vc vz p q i j s0 s1, vs = [vp, vq, vc, vz] ∧ AtP H vp p ∧ AtP H vq q ∧ TupT H vc [i, j] ∧ TupT H vz [s0, s1] ∧ Sz 400 p ∧ Sz 400 q ∧ Bd 400 i ∧ Bd 400 j ∧ Bd 400 s0 ∧ Bd 400 s1 ∧ 0 < p.z ∧ 0 < q.z ∧ 0 < s0 ∧ 0 < s1 ∧ Apart p q ∧
  ∀ b H', Same H H' → (b = true ↔ MeetP p q i j s0 s1) → Q (.bl b) H'
theorem sc_l_meets : FnScope ["_law_p", "_law_q", "_law_cell", "_law_size", "_law_low"] ["_law_p", "_law_q", "_law_cell", "_law_size"] (defScope s_l_meets) := ⟨rfl, rfl, rfl, by decide +kernel, rfl, by decide +kernel, by decide +kernel⟩
theorem ok_l_meets (T : Txt K mg t) : FnOk P w K mg base CX0 5 t.f_l_meets t.d_l_meets ["_law_p", "_law_q", "_law_cell", "_law_size"] sp_l_meets := by
  refine T.l_meets.F.ok (k := 4) sc_l_meets (fun vs H Q E h => ?_) (fun cdv A outer s H vs Q E hr h => ?_)
  · obtain ⟨vp, vq, vc, vz, p, q, i, j, s0, s1, rfl, _⟩ := h
    rfl
  · obtain ⟨vp, vq, vc, vz, p, q, i, j, s0, s1, rfl, hp, hq, hc, hz, zp, zq, bi, bj, b0, b1, p0, q0, s00, h1, ap, k⟩ := h
    refine ⟨_, (@pss_cons _ _ _ _ _ (@ps_if _ _ _ _ _ _ _ _ (PW.pt (@pw_or _ _ _ _ _ _ _ (@pt_val _ _ _ (@pe_fn _ _ _ _ _ _ _ _ _ _ _ _ _ _ T.l_inside (ok_l_inside T) hr (by decide) (@pa_cons _ _ _ _ _ (pv 0) (@pa_cons _ _ _ _ _ (pv 2) (@pa_cons _ _ _ _ _ (pv 3) (@pa_nil _) star_name) star_name) star_name) (by rfl) (by decide) (by rfl) (by rfl)) (by intro _; rfl)) (@pw_or1 _ _ _ _ (@pt_val _ _ _ (@pe_fn _ _ _ _ _ _ _ _ _ _ _ _ _ _ T.l_inside (ok_l_inside T) hr (by decide) (@pa_cons _ _ _ _ _ (pv 1) (@pa_cons _ _ _ _ _ (pv 2) (@pa_cons _ _ _ _ _ (pv 3) (@pa_nil _) star_name) star_name) star_name) (by rfl) (by decide) (by rfl) (by rfl)) (by intro _; rfl))))) (@pss_one _ _ _ (@ps_ret _ _ _ _ (@pe_bl _ _ _ _))) (@pss_nil _)) (@pss_cons _ _ _ _ _ (@ps_set _ _ 4 _ _ _ _ sc_l_meets.nd rfl (Or.inl rfl) (@pe_fn _ _ _ _ _ _ _ _ _ _ _ _ _ _ T.l_corner (ok_l_corner T) hr (by decide) (@pa_cons _ _ _ _ _ (pv 2) (@pa_cons _ _ _ _ _ (pv 3) (@pa_cons _ _ _ _ _ (@pe_int _ _ _ _) (@pa_cons _ _ _ _ _ (@pe_int _ _ _ _) (@pa_nil _) star_con) star_con) star_name) star_name) (by rfl) (by decide) (by rfl) (by rfl)) (by rfl) (by first | exact .inl rfl | exact .inr rfl | assumption)) (@pss_cons _ _ _ _ _ (@ps_if _ _ _ _ _ _ _ _ (@pt_val _ _ _ (@pe_fn _ _ _ _ _ _ _ _ _ _ _ _ _ _ T.l_border_met (ok_l_border_met T) hr (by decide) (@pa_cons _ _ _ _ _ (pv 0) (@pa_cons _ _ _ _ _ (pv 1) (@pa_cons _ _ _ _ _ (pv 4) (@pa_cons _ _ _ _ _ (@pe_fn _ _ _ _ _ _ _ _ _ _ _ _ _ _ T.l_corner (ok_l_corner T) hr (by decide) (@pa_cons _ _ _ _ _ (pv 2) (@pa_cons _ _ _ _ _ (pv 3) (@pa_cons _ _ _ _ _ (@pe_int _ _ _ _) (@pa_cons _ _ _ _ _ (@pe_int _ _ _ _) (@pa_nil _) star_con) star_con) star_name) star_name) (by rfl) (by decide) (by rfl) (by rfl)) (@pa_nil _) star_call) star_name) star_name) star_name) (by rfl) (by decide) (by rfl) (by rfl)) (by intro _; rfl)) (@pss_one _ _ _ (@ps_ret _ _ _ _ (@pe_bl _ _ _ _))) (@pss_nil _)) (@pss_cons _ _ _ _ _ (@ps_if _ _ _ _ _ _ _ _ (@pt_val _ _ _ (@pe_fn _ _ _ _ _ _ _ _ _ _ _ _ _ _ T.l_border_met (ok_l_border_met T) hr (by decide) (@pa_cons _ _ _ _ _ (pv 0) (@pa_cons _ _ _ _ _ (pv 1) (@pa_cons _ _ _ _ _ (pv 4) (@pa_cons _ _ _ _ _ (@pe_fn _ _ _ _ _ _ _ _ _ _ _ _ _ _ T.l_corner (ok_l_corner T) hr (by decide) (@pa_cons _ _ _ _ _ (pv 2) (@pa_cons _ _ _ _ _ (pv 3) (@pa_cons _ _ _ _ _ (@pe_int _ _ _ _) (@pa_cons _ _ _ _ _ (@pe_int _ _ _ _) (@pa_nil _) star_con) star_con) star_name) star_name) (by rfl) (by decide) (by rfl) (by rfl)) (@pa_nil _) star_call) star_name) star_name) star_name) (by rfl) (by decide) (by rfl) (by rfl)) (by intro _; rfl)) (@pss_one _ _ _ (@ps_ret _ _ _ _ (@pe_bl _ _ _ _))) (@pss_nil _)) (@pss_one _ _ _ (@ps_ret _ _ _ _ (@pe_fn _ _ _ _ _ _ _ _ _ _ _ _ _ _ T.l_through (ok_l_through T) hr (by decide) (@pa_cons _ _ _ _ _ (pv 0) (@pa_cons _ _ _ _ _ (pv 1) (@pa_cons _ _ _ _ _ (pv 2) (@pa_cons _ _ _ _ _ (pv 3) (@pa_nil _) star_name) star_name) star_name) star_name) (by rfl) (by decide) (by rfl) (by rfl)))))))), ?_⟩
    have B0 : Bd 8 (0 : Int) := by unfold Bd; decide
    have B1 : Bd 8 (1 : Int) := by unfold Bd; decide
    have LM := law_meet p0 q0 s00 h1 ap (cor_is (i := i) (j := j) (s0 := s0) (g := 0) (f := 0) h1) (cor_is (i := i) (j := j) (s0 := s0) (g := 1) (f := 0) h1) (cor_is (i := i) (j := j) (s0 := s0) (g := 0) (f := 1) h1) (cor_is (i := i) (j := j) (s0 := s0) (g := 1) (f := 1) h1)
    have z00 := cor_sz h1 bi bj b0 b1 B0 B0
    have z01 := cor_sz h1 bi bj b0 b1 B0 B1
    have z10 := cor_sz h1 bi bj b0 b1 B1 B0
    refine st_ifNG (R := fun c H' => H = H' ∧ (c = true ↔ InsP p i j s0 s1 ∨ InsP q i j s0 s1)) (gt_or (gt_ins (pa_c (pu_v rfl) (pa_c (pu_v rfl) (pa_c (pu_v rfl) pa_n))) hp hc hz zp bi bj b0 b1) (fun H' r => ?_) fun H' r => ⟨r.1, by simp [r.2.mp rfl]⟩) (fun H' r => st_ret pu_c (k true H' (by rw [r.1]; exact Same.refl _) ?_)) fun H' r => ?_
    · obtain ⟨rfl, r⟩ := r
      have r' : ¬ InsP p i j s0 s1 := fun z => by cases r.mpr z
      refine (gt_ins (pa_c (pu_v rfl) (pa_c (pu_v rfl) (pa_c (pu_v rfl) pa_n))) hq hc hz zq bi bj b0 b1).imp fun c H' z => ⟨z.1, ?_⟩
      rw [z.2]
      simp [r']
    · have z := r.2.mp rfl
      refine ⟨fun _ => LM.mp ?_, fun _ => rfl⟩
      rcases z with z | z
      · exact .inl z
      · exact .inr (.inl z)
    obtain ⟨rfl, r⟩ := r
    have r1 : ¬ InsP p i j s0 s1 := fun z => by cases r.mpr (.inl z)
    have r2 : ¬ InsP q i j s0 s1 := fun z => by cases r.mpr (.inr z)
    refine st_setG (gv_corner (pa_c (pu_v rfl) (pa_c (pu_v rfl) (pa_c pu_c (pa_c pu_c pa_n)))) hc hz bi bj b0 b1 B0 B0 h1) ?_
    rintro vl H1 ⟨s1', tl⟩
    refine st_ifNG (gt_bord rfl rfl rfl (gv_corner (pa_c (pu_v rfl) (pa_c (pu_v rfl) (pa_c pu_c (pa_c pu_c pa_n)))) (hc.same s1') (hz.same s1') bi bj b0 b1 B0 B1 h1) (TupT.same hp s1') (TupT.same hq s1') tl (zp.mono (by decide)) (zq.mono (by decide)) z00 z01 p0 (cor_is h1).pos) (fun H' r => st_ret pu_c (k true H' (s1'.trans r.1) ?_)) fun H2 r => ?_
    · exact ⟨fun _ => LM.mp (.inr (.inr (.inl r.2.symm))), fun _ => rfl⟩
    obtain ⟨s2, r3⟩ := r
    have s12 := s1'.trans s2
    refine st_ifNG (gt_bord rfl rfl rfl (gv_corner (pa_c (pu_v rfl) (pa_c (pu_v rfl) (pa_c pu_c (pa_c pu_c pa_n)))) (hc.same s12) (hz.same s12) bi bj b0 b1 B1 B0 h1) (TupT.same hp s12) (TupT.same hq s12) (TupT.same tl s2) (zp.mono (by decide)) (zq.mono (by decide)) z00 z10 p0 (cor_is h1).pos) (fun H' r => st_ret pu_c (k true H' (s12.trans r.1) ?_)) fun H3 r => ?_
    · exact ⟨fun _ => LM.mp (.inr (.inr (.inr (.inl r.2.symm)))), fun _ => rfl⟩
    obtain ⟨s3, r4⟩ := r
    have s13 := s12.trans s3
    refine st_retG (gv_call (R := fun v H' => ∃ b, v = .bl b ∧ Same H3 H' ∧ (b = true ↔ Thr p q (cor i j s0 s1 0 0) (cor i j s0 s1 1 0) (cor i j s0 s1 0 1) (cor i j s0 s1 1 1) i j s0 s1)) (pa_c (pu_v rfl) (pa_c (pu_v rfl) (pa_c (pu_v rfl) (pa_c (pu_v rfl) pa_n)))) fun Q f => ⟨vp, vq, vc, vz, p, q, i, j, s0, s1, rfl, TupT.same hp s13, TupT.same hq s13, hc.same s13, hz.same s13, zp, zq, bi, bj, b0, b1, p0, h1, fun b H' s z => f _ _ ⟨b, rfl, s, z⟩⟩) ?_
    rintro _ H4 ⟨b, rfl, s4, z⟩
    refine k b H4 (s13.trans s4) ?_
    rw [z, ← LM, ← r3, ← r4]
    simp [r1, r2]
/-- next to one another in the row in which the side from p to q meets them -/
def stepOk (p q : Pt3) (c c' : Int × Int) : Prop := c ≠ c' ∧ (c'.1 - c.1 ≠ 0 → 0 < (c'.1 - c.1) * (q.x * p.z - p.x * q.z)) ∧ (c'.2 - c.2 ≠ 0 → 0 < (c'.2 - c.2) * (q.y * p.z - p.y * q.z))
theorem pu_cast2 {σ : L2.St} {H : Hp} {t : TT} {b c : Bool} (h : PuT t σ H b) (e : b = c) : PuT t σ H c := e ▸ h
def sp_l_in_row : Sp := fun vs H Q _ => ∃ (l : Addr) (cs : List V) (vp vq : V) (p q : Pt3), vs = [.ref l, vp, vq] ∧ H l = some (.lst cs) ∧ cs.length ≤ 1000 ∧ (∀ v ∈ cs, ∃ i j, TupT H v [i, j] ∧ Bd 400 i ∧ Bd 400 j) ∧ AtP H vp p ∧ AtP H vq q ∧ Sz 400 p ∧ Sz 400 q ∧ (∀ (n : Nat) v w, cs[n]? = some v → cs[n + 1]? = some w → stepOk p q (cellAt H v) (cellAt H w)) ∧ Q (.bl true) H
theorem sc_l_in_row : FnScope ["_law_cells_here", "_law_p", "_law_q", "_law_at", "_law_k", "_law_step"] ["_law_cells_here", "_law_p", "_law_q"] (defScope s_l_in_row) := ⟨rfl, rfl, rfl, by decide +kernel, rfl, by decide +kernel, by decide +kernel⟩
theorem ok_l_in_row (T : Txt K mg t) : FnOk P w K mg base CX0 1 t.f_l_in_row t.d_l_in_row ["_law_cells_here", "_law_p", "_law_q"] sp_l_in_row := by
  refine T.l_in_row.F.ok (k := 0) sc_l_in_row (fun vs H Q E h => ?_) (fun cdv A outer s H vs Q E hr h => ?_)
  · obtain ⟨l, cs, vp, vq, p, q, rfl, _⟩ := h
    rfl
  · obtain ⟨l, cs, vp, vq, p, q, rfl, hl, hz, hc, ⟨ap, rfl, hp⟩, ⟨aq, rfl, hq⟩, zp, zq, hst, k⟩ := h
    refine ⟨_, (@pss_cons _ _ _ _ _ (@ps_for _ _ _ _ _ _ _ _ PassesOwn.never rfl (@pi_range1 _ _ _ _ _ _ rfl T.b_range (@pa_cons _ _ _ _ _ (@pe_op _ _ _ _ _ _ _ _ op_sub (@pe_callB _ _ _ _ _ _ _ _ _ call_len_seq (by rfl) T.b_len PySem.boot_len (@pa_cons _ _ _ _ _ (pv 0) (@pa_nil _) star_name) (by decide) (by decide) (by rfl) (by rfl)) (@pe_int _ _ _ _)) (@pa_nil _) star_bin) (by rfl)) (@pg_name _ _ 3 _ sc_l_in_row.nd rfl (Or.inl rfl) (by first | exact .inl rfl | exact .inr rfl | assumption)) (@pss_cons _ _ _ _ _ (@ps_if _ _ _ _ _ _ _ _ (@pt_cmpR _ _ _ _ _ _ _ _ (op_eqTI hr.units) (@pe_ix _ _ _ _ _ _ _ ix_list (pv 0) (pv 3) (fun _ _ => rfl)) (@pe_ix _ _ _ _ _ _ _ ix_list (pv 0) (@pe_op _ _ _ _ _ _ _ _ op_add (pv 3) (@pe_int _ _ _ _)) (fun _ _ => rfl)) (nomark _)) (@pss_one _ _ _ (@ps_ret _ _ _ _ (@pe_bl _ _ _ _))) (@pss_nil _)) (@pss_one _ _ _ (@ps_for _ _ _ _ _ _ _ _ PassesOwn.never rfl (@pi_range1 _ _ _ _ _ _ rfl T.b_range (@pa_cons _ _ _ _ _ (@pe_int _ _ _ _) (@pa_nil _) star_con) (by rfl)) (@pg_name _ _ 4 _ sc_l_in_row.nd rfl (Or.inl rfl) (by first | exact .inl rfl | exact .inr rfl | assumption)) (@pss_cons _ _ _ _ _ (@ps_set _ _ 5 _ _ _ _ sc_l_in_row.nd rfl (Or.inl rfl) (@pe_op _ _ _ _ _ _ _ _ op_sub (@pe_ix _ _ _ _ _ _ _ ix_tup (@pe_ix _ _ _ _ _ _ _ ix_list (pv 0) (@pe_op _ _ _ _ _ _ _ _ op_add (pv 3) (@pe_int _ _ _ _)) (fun _ _ => rfl)) (pv 4) (fun _ _ => rfl)) (@pe_ix _ _ _ _ _ _ _ ix_tup (@pe_ix _ _ _ _ _ _ _ ix_list (pv 0) (pv 3) (fun _ _ => rfl)) (pv 4) (fun _ _ => rfl))) (by rfl) (by first | exact .inl rfl | exact .inr rfl | assumption)) (@pss_one _ _ _ (@ps_if _ _ _ _ _ _ _ _ (PW.pt (@pw_and _ _ _ _ _ _ _ (@pt_cmpR _ _ _ _ _ _ _ _ op_ne (pv 5) (@pe_int _ _ _ _) (nomark _)) (@pw_and1 _ _ _ _ (@pt_cmpR _ _ _ _ _ _ _ _ op_le (@pe_op _ _ _ _ _ _ _ _ op_mulB (pv 5) (@pe_op _ _ _ _ _ _ _ _ op_sub (@pe_op _ _ _ _ _ _ _ _ op_mulB (@pe_ix _ _ _ _ _ _ _ ix_tup (pv 2) (pv 4) (fun _ _ => rfl)) (@pe_ix _ _ _ _ _ _ _ ix_tup (pv 1) (@pe_int _ _ _ _) (fun _ _ => rfl))) (@pe_op _ _ _ _ _ _ _ _ op_mulB (@pe_ix _ _ _ _ _ _ _ ix_tup (pv 1) (pv 4) (fun _ _ => rfl)) (@pe_ix _ _ _ _ _ _ _ ix_tup (pv 2) (@pe_int _ _ _ _) (fun _ _ => rfl))))) (@pe_int _ _ _ _) (nomark _))))) (@pss_one _ _ _ (@ps_ret _ _ _ _ (@pe_bl _ _ _ _))) (@pss_nil _)))) (by intro _; rfl)))) (by intro _; rfl)) (@pss_one _ _ _ (@ps_ret _ _ _ _ (@pe_bl _ _ _ _)))), ?_⟩
    refine st_range (n := (cs.length : Int) - 1) (pa_c (pu_sub (pu_lenL (pa_c (pu_v rfl) pa_n) (SqL.of hl)) pu_c) pa_n) (by omega) (by omega) (fun i σ H' => H = H' ∧ ∃ z1 z2 z3 : Option V, σ = [some (.ref l), some (.ref ap), some (.ref aq), z1, z2, z3]) ⟨rfl, _, _, _, rfl⟩ ?_ ?_
    · rintro i σ _ hi ⟨rfl, z1, z2, z3, rfl⟩
      have h1 : i < cs.length := by omega
      have h2 : i + 1 < cs.length := by omega
      have ev : cs[i]? = some cs[i] := List.getElem?_eq_getElem h1
      have ew : cs[i + 1]? = some cs[i + 1] := List.getElem?_eq_getElem h2
      obtain ⟨a1, b1, tv, ba1, bb1⟩ := hc _ (List.getElem_mem h1)
      obtain ⟨a2, b2, tw, ba2, bb2⟩ := hc _ (List.getElem_mem h2)
      have st := hst i _ _ ev ew
      rw [cellAt_of tv, cellAt_of tw] at st
      obtain ⟨nc, st1, st2⟩ := st
      have A1 : atI cs (0 + (i : Int)) = some cs[i] := by rw [Int.zero_add]; exact atI_nat ev
      have A2 : atI cs (0 + (i : Int) + 1) = some cs[i + 1] := by rw [Int.zero_add]; exact atI_nat (j := i + 1) ew
      have C1 : ∀ {σ : L2.St}, σ[0]? = some (some (.ref l)) → σ[3]? = some (some (.int (0 + (i : Int)))) → Pu (tOp (rIxL K) (tVar 0) (tVar 3)) σ H cs[i] := fun h0 h3 => pu_ixL (pu_v h0) (pu_v h3) (SqL.of hl) A1
      have C2 : ∀ {σ : L2.St}, σ[0]? = some (some (.ref l)) → σ[3]? = some (some (.int (0 + (i : Int)))) → Pu (tOp (rIxL K) (tVar 0) (tOp (rI0 fun i j => .int (i + j)) (tVar 3) (tC (.int 1)))) σ H cs[i + 1] := fun h0 h3 => pu_ixL (pu_v h0) (pu_add (pu_v h3) pu_c) (SqL.of hl) A2
      revert tv tw C1 C2
      generalize cs[i] = v
      generalize cs[i + 1] = w
      intro tv tw C1 C2
      refine st_ifN (b := false) (pu_cast2 (pt_t (pu_eqT (C1 rfl rfl) (C2 rfl rfl) tv.i tw.i)) (decide_eq_false fun e => nc (by
        injection e with e1 e2
        injection e2 with e2 _
        rw [e1, e2]))) (fun e => by cases e) (fun _ => ?_)
      obtain ⟨cv, rfl, hv⟩ := tv
      obtain ⟨cw, rfl, hw⟩ := tw
      refine st_range1 (n := 2) (pa_c pu_c pa_n) (by decide) (by decide) (fun j σ H' => H = H' ∧ ∃ z2 z3 : Option V, σ = [some (.ref l), some (.ref ap), some (.ref aq), some (.int (0 + (i : Int))), z2, z3]) ⟨rfl, _, _, rfl⟩ ?_ ?_
      · rintro j σ _ hj ⟨rfl, y2, y3, rfl⟩
        have hj2 : j = 0 ∨ j = 1 := by omega
        obtain ⟨c1, c2, x, y, g1, g2, gx, gy, bc1, bc2, bx, by', stj⟩ : ∃ c1 c2 x y : Int, atI ([a1, b1].map V.int) (0 + (j : Int)) = some (.int c1) ∧ atI ([a2, b2].map V.int) (0 + (j : Int)) = some (.int c2) ∧ atI ([p.x, p.y, p.z].map V.int) (0 + (j : Int)) = some (.int x) ∧ atI ([q.x, q.y, q.z].map V.int) (0 + (j : Int)) = some (.int y) ∧ Bd 400 c1 ∧ Bd 400 c2 ∧ Bd 400 x ∧ Bd 400 y ∧ (c2 - c1 ≠ 0 → 0 < (c2 - c1) * (y * p.z - x * q.z)) := by
          rcases hj2 with rfl | rfl
          · exact ⟨a1, a2, p.x, q.x, rfl, rfl, rfl, rfl, ba1, ba2, zp.x, zq.x, st1⟩
          · exact ⟨b1, b2, p.y, q.y, rfl, rfl, rfl, rfl, bb1, bb2, zp.y, zq.y, st2⟩
        refine st_set (v := .int (c2 - c1)) (pu_sub (pu_ixT (C2 rfl rfl) (pu_v rfl) (SqT.of hw) g2) (pu_ixT (C1 rfl rfl) (pu_v rfl) (SqT.of hv) g1)) ?_
        have bs : Bd 500 (c2 - c1) := (bc2.sub bc1).mono (by decide)
        have bd : Bd 900 (y * p.z - x * q.z) := ((by'.mul zp.z).sub (bx.mul zq.z)).mono (by decide)
        refine st_ifN1 (b := false) (pu_cast2 (pt_and (pt_t (pu_neI (pu_v rfl) pu_c)) fun _ => pt_t (pu_le (pu_mul (pu_v rfl) (pu_sub (pu_mul (pu_ixT (pu_v rfl) (pu_v rfl) (SqT.of hq) gy) (pu_ixT (pu_v rfl) pu_c (SqT.of (hp)) rfl) (mulOk_of (by') (zp.z) (by decide))) (pu_mul (pu_ixT (pu_v rfl) (pu_v rfl) (SqT.of hp) gx) (pu_ixT (pu_v rfl) pu_c (SqT.of (hq)) rfl) (mulOk_of (bx) (zq.z) (by decide)))) (mulOk_of (bs) (bd) (by decide))) pu_c)) ?_) (fun e => by cases e) (fun _ => ⟨rfl, _, _, rfl⟩)
        by_cases z : c2 - c1 = 0
        · rw [z]
          rfl
        · have := stj z
          rw [decide_eq_false (p := (c2 - c1) * (y * p.z - x * q.z) ≤ 0) (by omega)]
          simp
      · rintro σ _ ⟨rfl, y2, y3, rfl⟩
        exact ⟨rfl, _, _, _, rfl⟩
    · rintro σ _ ⟨rfl, z1, z2, z3, rfl⟩
      exact st_ret pu_c k
def sp_l_cells : Sp := fun vs H Q _ => ∃ (l : Addr) (cs : List V), vs = [.ref l] ∧ H l = some (.lst cs) ∧ CellsAt H cs ∧ Q (.bl true) H
theorem sc_l_cells : FnScope ["_law_thing", "_law_cell"] ["_law_thing"] (defScope s_l_cells) := ⟨rfl, rfl, rfl, by decide +kernel, rfl, by decide +kernel, by decide +kernel⟩
theorem ok_l_cells (T : Txt K mg t) : FnOk P w K mg base CX0 3 t.f_l_cells t.d_l_cells ["_law_thing"] sp_l_cells := by
  refine T.l_cells.F.ok (k := 2) sc_l_cells (fun vs H Q E h => ?_) (fun cdv A outer s H vs Q E hr h => ?_)
  · obtain ⟨l, cs, rfl, _⟩ := h
    rfl
  · obtain ⟨l, cs, rfl, hl, hc, k⟩ := h
    refine ⟨_, (@pss_cons _ _ _ _ _ (@ps_if _ _ _ _ _ _ _ _ (@pt_not _ _ _ _ (@pt_val _ _ _ (@pe_callB _ _ _ _ _ _ _ _ _ call_isinst (by rfl) T.b_isinstance PyProof.Rows.boot_isinstance (@pa_cons _ _ _ _ _ (pv 0) (@pa_cons _ _ _ _ _ (@pe_ty _ _ _ _ T.b_list PyProof.Rows.boot_list (by rfl) (by decide) (by decide)) (@pa_nil _) star_name) star_name) (by decide) (by decide) (by rfl) (by rfl)) (by intro _; rfl))) (@pss_one _ _ _ (@ps_ret _ _ _ _ (@pe_bl _ _ _ _))) (@pss_nil _)) (@pss_cons _ _ _ _ _ (@ps_for _ _ _ _ _ _ _ _ PassesOwn.never rfl (@pi_list _ _ _ _ (pv 0)) (@pg_name _ _ 1 _ sc_l_cells.nd rfl (Or.inl rfl) (by first | exact .inl rfl | exact .inr rfl | assumption)) (@pss_one _ _ _ (@ps_if _ _ _ _ _ _ _ _ (@pt_not _ _ _ _ (@pt_val _ _ _ (@pe_fn _ _ _ _ _ _ _ _ _ _ _ _ _ _ T.l_wholes (ok_l_wholes T) hr (by decide) (@pa_cons _ _ _ _ _ (pv 1) (@pa_cons _ _ _ _ _ (@pe_int _ _ _ _) (@pa_nil _) star_con) star_name) (by rfl) (by decide) (by rfl) (by rfl)) (by intro _; rfl))) (@pss_one _ _ _ (@ps_ret _ _ _ _ (@pe_bl _ _ _ _))) (@pss_nil _))) (by intro _; rfl)) (@pss_one _ _ _ (@ps_ret _ _ _ _ (@pe_bl _ _ _ _))))), ?_⟩
    refine st_ifN (b := false) (pt_n (b := true) (pt_b (pu_isi (pa_c (pu_v rfl) (pa_c pu_c pa_n)) (.lst hl) kit_same))) (fun e => by cases e) fun _ => ?_
    refine st_list (K := K) (xs := cs) (pu_v rfl) (fun i σ H' => H = H' ∧ ∃ z : Option V, σ = [some (.ref l), z]) ⟨rfl, none, rfl⟩ (fun i σ H' _ ⟨e, _⟩ => by subst e; exact SqL.of hl) ?_ ?_
    · rintro i x σ _ hx ⟨rfl, z, rfl⟩
      obtain ⟨a, b, tv⟩ := hc x (List.mem_of_getElem? hx)
      exact st_ifN1 (pt_n (b := true) (pt_b (pu_call (pa_c (pu_v rfl) (pa_c pu_c pa_n)) fun Q f => ⟨x, [a, b], rfl, tv, f⟩))) (fun e => by simp at e) fun _ => ⟨rfl, _, rfl⟩
    · rintro σ _ ⟨rfl, z, rfl⟩
      exact st_ret pu_c k
def sp_law (K : PySem.W.Frag) (p : Addr) : Sp := fun vs H Q _ => ∃ (a : Addr) (ns : List Int), vs = [.ref a] ∧ SqL K H a (ns.map V.int) ∧ ns.length ≤ 63 ∧ H p = some (.ext (TabA p #[])) ∧ ∀ H', (∃ ps, H' p = some (.ext (TabA p ps))) → Q (.bl true) H'
theorem sp_start {K : PySem.W.Frag} {p a : Addr} {ns : List Int} {H : Hp} (hl : ns.length ≤ 63) (hS : SqL K H a (ns.map V.int)) (hT : ∀ q ∈ [p], H q = some (.ext (TabA q #[]))) :
    sp_law K p [.ref a] H (fun v H' => v = .bl true ∧ ∀ q ∈ [p], ∃ ps, H' q = some (.ext (TabA q ps))) (fun _ _ _ => False) :=
  ⟨a, ns, rfl, hS, hl, hT p (List.mem_singleton.mpr rfl), fun H' h => ⟨rfl, fun q hq => by rw [List.mem_singleton.mp hq]; exact h⟩⟩
theorem gv_draw1 {σ : L2.St} {H : Hp} {hd sc : Addr} {t : TA} {m : Int} (hh : HandAt H hd sc) (ha : PuA t σ H [.ref hd, .int m]) (h0 : 0 < m) (hb : Bd 9000 m) : Gv (tOp (rI0 fun i j => .int (i + j)) (tC (.int 1)) (tCall sp_l_draw [] E0 t)) σ H (fun v H' => (∃ n : Int, v = .int n ∧ 0 < n ∧ n ≤ m) ∧ HandAt H' hd sc ∧ SameB hd H H') := fun Q f => pu_c (v := .int 1) _ (gv_draw hh ha h0 hb _ fun v H' ⟨⟨n, e, n0, n1⟩, a, s⟩ => by
  subst e
  exact ⟨1, n, rfl, rfl, f _ _ ⟨⟨_, rfl, by omega, by omega⟩, a, s⟩⟩)
theorem tab_h {H H' : Hp} {P d : Addr} {q : Str} {lp : Pos} (h : TabOk H P q lp) (s : SameB d H H') (hd : ∃ ys, H d = some (.lst ys)) : TabOk H' P q lp := by
  obtain ⟨ys, hd⟩ := hd
  obtain ⟨ps, e, r⟩ := h
  refine ⟨ps, s P _ e (ne_of e hd (fun z => nomatch z)), r.imp id fun ⟨c, e1, e2⟩ => ⟨c, e1, s c _ e2 (ne_of e2 hd (fun z => nomatch z))⟩⟩
/-- what stands while the law draws -/
structure Stg (H : Hp) (P hd sc : Addr) (vz : V) (s0 s1 : Int) : Prop where
  h : HandAt H hd sc
  tb : TabOk H P lamQ lamP
  z : TupT H vz [s0, s1]
theorem Stg.same {H H' : Hp} {P hd sc : Addr} {vz : V} {s0 s1 : Int} (g : Stg H P hd sc vz s0 s1) (s : Same H H') : Stg H' P hd sc vz s0 s1 := ⟨g.h.same s, tab_same g.tb s, g.z.same s⟩
theorem Stg.hand {H H' : Hp} {P hd sc : Addr} {vz : V} {s0 s1 : Int} (g : Stg H P hd sc vz s0 s1) (h : HandAt H' hd sc) (s : SameB hd H H') : Stg H' P hd sc vz s0 s1 := by
  obtain ⟨ys, hy⟩ := g.h.ls
  exact ⟨h, tab_h g.tb s ⟨ys, hy⟩, g.z.sameB s hy⟩
theorem Stg.upd {H : Hp} {P hd sc l : Addr} {vz : V} {s0 s1 : Int} {xs ys : List V} (g : Stg H P hd sc vz s0 s1) (n : l ≠ hd ∧ l ≠ sc) (hl : H l = some (.lst xs)) : Stg (upd H l (.lst ys)) P hd sc vz s0 s1 :=
  ⟨g.h.upd n, tab_h g.tb SameB.upd ⟨xs, hl⟩, g.z.sameB SameB.upd hl⟩
theorem len2' {a b : V} : ([a, b] : List V).length ≤ sizeLine := by show 2 ≤ sizeLine; decide
def In4 (c : Int × Int) : Prop := (-4 ≤ c.1 ∧ c.1 ≤ 4) ∧ -4 ≤ c.2 ∧ c.2 ≤ 4
/-- while the cells are drawn -/
structure Lp (H : Hp) (P hd sc lc : Addr) (vz vp vq vc : V) (s0 s1 : Int) (p q : Pt3) (m : Nat) : Prop where
  g : Stg H P hd sc vz s0 s1
  p : AtP H vp p
  q : AtP H vq q
  c : ∃ c : Int × Int, TupT H vc [c.1, c.2] ∧ In4 c
  l : ∃ cs cells, H lc = some (.lst cs) ∧ CellsT H cs cells ∧ cs.length = m ∧ ∀ c ∈ cells, In4 c
  n : lc ≠ hd ∧ lc ≠ sc
section
variable {H H' : Hp} {P hd sc lc : Addr} {vz vp vq vc : V} {s0 s1 : Int} {p q : Pt3} {m : Nat}
theorem Lp.same (g : Lp H P hd sc lc vz vp vq vc s0 s1 p q m) (s : Same H H') : Lp H' P hd sc lc vz vp vq vc s0 s1 p q m := by
  obtain ⟨c, tc, hc⟩ := g.c
  obtain ⟨cs, cells, h1, h2, h3, h4⟩ := g.l
  exact ⟨g.g.same s, TupT.same g.p s, TupT.same g.q s, ⟨c, tc.same s, hc⟩, ⟨cs, cells, s _ _ h1, h2.same s, h3, h4⟩, g.n⟩
theorem Lp.hand (g : Lp H P hd sc lc vz vp vq vc s0 s1 p q m) (h : HandAt H' hd sc) (s : SameB hd H H') : Lp H' P hd sc lc vz vp vq vc s0 s1 p q m := by
  obtain ⟨ys, hy⟩ := g.g.h.ls
  obtain ⟨c, tc, hc⟩ := g.c
  obtain ⟨cs, cells, h1, h2, h3, h4⟩ := g.l
  exact ⟨g.g.hand h s, TupT.sameB g.p s hy, TupT.sameB g.q s hy, ⟨c, tc.sameB s hy, hc⟩, ⟨cs, cells, s _ _ h1 g.n.1, h2.mono fun _ _ x => x.sameB s hy, h3, h4⟩, g.n⟩
theorem Lp.cell {pc : Addr} {i j : Int} (g : Lp H P hd sc lc vz vp vq vc s0 s1 p q m) (hpc : H pc = none) (h : In4 (i, j)) : Lp (upd H pc (.tup [.int i, .int j])) P hd sc lc vz vp vq (.ref pc) s0 s1 p q m := by
  have g' := g.same (Same.upd (o := .tup [.int i, .int j]) hpc)
  exact ⟨g'.g, g'.p, g'.q, ⟨(i, j), TupT.of (ns := [i, j]) upd_same, h⟩, g'.l, g'.n⟩
end
/-- behind the draws -/
structure Bs (H : Hp) (P lc lh : Addr) (vz vp vq : V) (cs : List V) (s0 s1 : Int) (p q : Pt3) (cells : List (Int × Int)) : Prop where
  tb : TabOk H P lamQ lamP
  z : TupT H vz [s0, s1]
  p : AtP H vp p
  q : AtP H vq q
  lc : H lc = some (.lst cs)
  lh : H lh = some (.lst cs)
  ct : CellsT H cs cells
theorem tup_ne {H H' : Hp} {l : Addr} {v : V} {ns : List Int} (h : TupT H v ns) (s : SameB l H H') (n : ∀ ys, H l ≠ some (.tup ys)) : TupT H' v ns := by
  obtain ⟨a, rfl, ha⟩ := h
  exact ⟨a, rfl, s a _ ha fun z => n _ (by rw [← z]; exact ha)⟩
section
variable {H H' : Hp} {P lc lh : Addr} {vz vp vq : V} {cs : List V} {s0 s1 : Int} {p q : Pt3} {cells : List (Int × Int)}
theorem Bs.same (g : Bs H P lc lh vz vp vq cs s0 s1 p q cells) (s : Same H H') : Bs H' P lc lh vz vp vq cs s0 s1 p q cells := ⟨tab_same g.tb s, g.z.same s, TupT.same g.p s, TupT.same g.q s, s _ _ g.lc, s _ _ g.lh, g.ct.same s⟩
theorem Bs.tab (g : Bs H P lc lh vz vp vq cs s0 s1 p q cells) (s : SameB P H H') (h : TabOk H' P lamQ lamP) : Bs H' P lc lh vz vp vq cs s0 s1 p q cells := by
  obtain ⟨ps, e, _⟩ := g.tb
  have n : ∀ ys, H P ≠ some (.tup ys) := fun ys z => by rw [e] at z; cases z
  have n2 : ∀ {l : Addr} {ys : List V}, H l = some (.lst ys) → l ≠ P := fun h z => by rw [z, e] at h; cases h
  exact ⟨h, tup_ne g.z s n, tup_ne g.p s n, tup_ne g.q s n, s _ _ g.lc (n2 g.lc), s _ _ g.lh (n2 g.lh), g.ct.mono fun _ _ x => tup_ne x s n⟩
theorem Bs.but {l : Addr} {o : HO} (g : Bs H P lc lh vz vp vq cs s0 s1 p q cells) (s : SameB l H H') (hl : H l = some o) (n1 : ∀ ys, o ≠ .tup ys) (n2 : ∀ φ, o ≠ .ext φ) (nc : lc ≠ l) (nh : lh ≠ l) : Bs H' P lc lh vz vp vq cs s0 s1 p q cells := by
  have n : ∀ ys, H l ≠ some (.tup ys) := fun ys z => by rw [hl] at z; cases z; exact n1 _ rfl
  obtain ⟨ps, e, r⟩ := g.tb
  have nx : ∀ {b : Addr} {φ : Heap → Prop}, H b = some (.ext φ) → b ≠ l := fun h z => by rw [z, hl] at h; cases h; exact n2 _ rfl
  exact ⟨⟨ps, s _ _ e (nx e), r.imp id fun ⟨c, e1, e2⟩ => ⟨c, e1, s _ _ e2 (nx e2)⟩⟩, tup_ne g.z s n, tup_ne g.p s n, tup_ne g.q s n, s _ _ g.lc nc, s _ _ g.lh nh, g.ct.mono fun _ _ x => tup_ne x s n⟩
theorem gv_thread {σ : L2.St} {ta : TA} {a b : Pt3} {va vb : V} (g : Bs H P lc lh vz vp vq cs s0 s1 p q cells) (ha : PuA ta σ H [va, vb, .ref lh, vz]) (pa : AtP H va a) (pb : AtP H vb b) (za : Sz 400 a) (zb : Sz 400 b) (a0 : 0 < a.z) (b0 : 0 < b.z) (z0 : Bd 64 s0) (z1 : Bd 64 s1) (h0 : 0 < s0) (h1 : 0 < s1) (ap : Apart a b) (hcb : ∀ c ∈ cells, In4 c) (hz : cs.length < 64) :
    Gv (tCall (sp_thread_of P) [] E0 ta) σ H (fun v H' => ∃ D zs cz, v = .ref D ∧ H D = none ∧ SameB P H H' ∧ Bs H' P lc lh vz vp vq cs s0 s1 p q cells ∧ H' D = some (.lst zs) ∧ CellsT H' zs cz ∧ ThreadOf a b s0 s1 cells cz) :=
  gv_call ha fun Q f => ⟨va, vb, vz, a, b, lh, cs, cells, s0, s1, rfl, pa, pb, g.lh, g.ct, fun c hc => by
    obtain ⟨⟨a1, a2⟩, a3, a4⟩ := hcb c hc
    exact ⟨by unfold Bd; omega, by unfold Bd; omega⟩, hz, g.z, za, zb, z0.mono (by decide), z1.mono (by decide), a0, b0, h0, h1, ap, g.tb, fun D zs cz H' s tb n ne e c th => f _ _ ⟨D, zs, cz, rfl, n, s, g.tab s tb, e, c, th⟩⟩
end
theorem perm_sub {α : Type} [DecidableEq α] : ∀ {a b : List α}, a.Nodup → (∀ x ∈ a, x ∈ b) → a.length ≤ b.length
  | [], b, _, _ => Nat.zero_le _
  | x :: a, b, ha, h => by
    obtain ⟨h1, h2⟩ := List.nodup_cons.mp ha
    have hx := h x (List.mem_cons_self ..)
    have := perm_sub (b := b.erase x) h2 fun y hy => by
      have hne : y ≠ x := fun z => h1 (by rw [← z]; exact hy)
      exact (List.mem_erase_of_ne hne).mpr (h y (List.mem_cons_of_mem _ hy))
    rw [List.length_erase_of_mem hx] at this
    have hp := List.length_pos_of_mem hx
    rw [List.length_cons]
    omega
theorem thread_nd {p q : Pt3} {x y : Int} {cells cz : List (Int × Int)} (h : ThreadOf p q x y cells cz) : cz.Nodup := List.nodup_iff_pairwise_ne.mpr (h.2.imp fun z => z.1)
theorem thread_one {p q : Pt3} {x y : Int} {cells a b : List (Int × Int)} (ha : ThreadOf p q x y cells a) (hb : ThreadOf p q x y cells b) : a = b :=
  row_one (R := rowLe (fX p q y) (fY p q y)) (fun _ _ h g => rowLe_anti h g) (perm_of_mem (thread_nd ha) (thread_nd hb) fun c => (ha.1 c).trans (hb.1 c).symm) (ha.2.imp fun z => z.2) (hb.2.imp fun z => z.2)
theorem thread_turn {p q : Pt3} {x y : Int} {cells a : List (Int × Int)} (ha : ThreadOf p q x y cells a) : ThreadOf q p x y cells a.reverse := by
  refine ⟨fun c => ?_, ?_⟩
  · rw [List.mem_reverse, ha.1 c, MeetP.comm]
  · rw [List.pairwise_reverse]
    refine ha.2.imp fun {c c'} z => ⟨z.1.symm, ?_⟩
    rw [fX_turn, fY_turn]
    exact rowLe_turn.mpr z.2
theorem thread_step {p q : Pt3} {x y : Int} {cells cz : List (Int × Int)} (hy : 0 < y) (h : ThreadOf p q x y cells cz) {n : Nat} {c c' : Int × Int} (e : cz[n]? = some c) (e' : cz[n + 1]? = some c') : stepOk p q c c' := by
  obtain ⟨h1, e1⟩ := List.getElem?_eq_some_iff.mp e
  obtain ⟨h2, e2⟩ := List.getElem?_eq_some_iff.mp e'
  have z := List.pairwise_iff_getElem.mp h.2 n (n + 1) h1 h2 (by omega)
  rw [e1, e2] at z
  obtain ⟨a1, a2, a3⟩ := row_ok z.2 z.1
  have ex : fX p q y = 2 * y * (q.x * p.z - p.x * q.z) := by unfold fX; grind
  have ey : fY p q y = 2 * y * (q.y * p.z - p.y * q.z) := by unfold fY; grind
  have pos : ∀ {d f : Int}, 0 < d * (2 * y * f) → 0 < d * f := fun {d f} h => by
    have e : d * (2 * y * f) = (d * f) * (2 * y) := by grind
    rw [e] at h
    exact Int.pos_of_mul_pos_left h (by omega)
  rw [ex] at a2
  rw [ey] at a3
  exact ⟨a1, fun w => pos (a2 w), fun w => pos (a3 w)⟩
theorem sc_law : FnScope ["_law_script", "_law_hand_here", "_law_top", "_law_size", "_law_row", "_law_p", "_law_q", "_law_cells_here", "_law_cell", "_law_k", "_law_i", "_law_handed", "_law_told", "_law_due", "_law_kept"] ["_law_script"] (defScope s_law) := ⟨rfl, rfl, rfl, by decide +kernel, rfl, by decide +kernel, by decide +kernel⟩
theorem ok_law (hB : BM base mg) (T : Txt K mg t) : FnOk P w K mg base CX0 6 t.f_law t.d_law ["_law_script"] (sp_law K t.p_thread_of) := by
  refine T.law.F.ok (k := 5) sc_law (fun vs H Q E h => ?_) (fun cdv A outer s H vs Q E hr h => ?_)
  · obtain ⟨a, ns, rfl, _⟩ := h
    rfl
  · obtain ⟨sa, ns, rfl, hS, hlen, hT0, k⟩ := h
    refine ⟨_, (@pss_cons _ _ _ _ _ (@ps_set _ _ 1 _ _ _ _ sc_law.nd rfl (Or.inr rfl) (@pe_fn _ _ _ _ _ _ _ _ _ _ _ _ _ _ T.l_hand (ok_l_hand T) hr (by decide) (@pa_cons _ _ _ _ _ (pv 0) (@pa_nil _) star_name) (by rfl) (by decide) (by rfl) (by rfl)) (by rfl) (by first | exact .inl rfl | exact .inr rfl | assumption)) (@pss_cons _ _ _ _ _ (@ps_set _ _ 2 _ _ _ _ sc_law.nd rfl (Or.inl rfl) (@pe_op _ _ _ _ _ _ _ _ op_add (@pe_int _ _ _ _) (@pe_fn _ _ _ _ _ _ _ _ _ _ _ _ _ _ T.l_draw (ok_l_draw T) hr (by decide) (@pa_cons _ _ _ _ _ (pv 1) (@pa_cons _ _ _ _ _ (@pe_int _ _ _ _) (@pa_nil _) star_con) star_name) (by rfl) (by decide) (by rfl) (by rfl))) (by rfl) (by first | exact .inl rfl | exact .inr rfl | assumption)) (@pss_cons _ _ _ _ _ (@ps_set _ _ 3 _ _ _ _ sc_law.nd rfl (Or.inl rfl) (@pe_fn _ _ _ _ _ _ _ _ _ _ _ _ _ _ T.l_fraction (ok_l_fraction T) hr (by decide) (@pa_cons _ _ _ _ _ (pv 2) (@pa_cons _ _ _ _ _ (@pe_op _ _ _ _ _ _ _ _ op_add (@pe_int _ _ _ _) (@pe_fn _ _ _ _ _ _ _ _ _ _ _ _ _ _ T.l_draw (ok_l_draw T) hr (by decide) (@pa_cons _ _ _ _ _ (pv 1) (@pa_cons _ _ _ _ _ (@pe_int _ _ _ _) (@pa_nil _) star_con) star_name) (by rfl) (by decide) (by rfl) (by rfl))) (@pa_nil _) star_bin) star_name) (by rfl) (by decide) (by rfl) (by rfl)) (by rfl) (by first | exact .inl rfl | exact .inr rfl | assumption)) (@pss_cons _ _ _ _ _ (@ps_setC _ 4 _ _ _ _ _ _ _ _ _ sc_law.nd rfl rfl (@cr_lcompC _ "_law_at" "_law_hand_here" _ _ _ _ _ _ _ _ 1 rfl (@pi_range1 _ _ _ _ _ _ rfl T.b_range (@pa_cons _ _ _ _ _ (@pe_int _ _ _ _) (@pa_nil _) star_con) (by rfl)) (fun _ _ _ _ => pg_name (i := 0) (show (["_law_at", "_law_hand_here"] : List Str).Nodup from by decide +kernel) rfl (Or.inl rfl) (.inr rfl)) (fun _ _ _ _ => (@pe_op _ _ _ _ _ _ _ _ op_sub (@pe_fn _ _ _ _ _ _ _ _ _ _ _ _ _ _ T.l_draw (ok_l_draw T) hr (by decide) (@pa_cons _ _ _ _ _ (pv 1) (@pa_cons _ _ _ _ _ (@pe_int _ _ _ _) (@pa_nil _) star_con) star_name) (by rfl) (by decide) (by rfl) (by rfl)) (@pe_int _ _ _ _))) rfl rfl (by decide +kernel) (by decide +kernel) rfl rfl rfl rfl rfl (by intro _; rfl)) (by rfl)) (@pss_cons _ _ _ _ _ (@ps_if _ _ _ _ _ _ _ _ (PW.pt (@pw_and _ _ _ _ _ _ _ (@pt_cmpR _ _ _ _ _ _ _ _ op_eq (@pe_ix _ _ _ _ _ _ _ ix_list (pv 4) (@pe_int _ _ _ _) (fun _ _ => rfl)) (@pe_ix _ _ _ _ _ _ _ ix_list (pv 4) (@pe_int _ _ _ _) (fun _ _ => rfl)) (nomark _)) (@pw_and1 _ _ _ _ (@pt_cmpR _ _ _ _ _ _ _ _ op_eq (@pe_ix _ _ _ _ _ _ _ ix_list (pv 4) (@pe_int _ _ _ _) (fun _ _ => rfl)) (@pe_ix _ _ _ _ _ _ _ ix_list (pv 4) (@pe_int _ _ _ _) (fun _ _ => rfl)) (nomark _))))) (@pss_one _ _ _ (@ps_augS _ _ _ _ _ _ _ _ _ _ _ _ _ (pv 4) (@pe_op _ _ _ _ _ _ _ _ op_add (@pe_int _ _ _ _) (@pe_fn _ _ _ _ _ _ _ _ _ _ _ _ _ _ T.l_draw (ok_l_draw T) hr (by decide) (@pa_cons _ _ _ _ _ (pv 1) (@pa_cons _ _ _ _ _ (@pe_int _ _ _ _) (@pa_nil _) star_con) star_name) (by rfl) (by decide) (by rfl) (by rfl))) get_list (@pe_int _ _ _ _) ip_add set_list (by intros; rfl))) (@pss_nil _)) (@pss_cons _ _ _ _ _ (@ps_set _ _ 5 _ _ _ _ sc_law.nd rfl (Or.inl rfl) (@pe_fn _ _ _ _ _ _ _ _ _ _ _ _ _ _ T.l_point (ok_l_point T) hr (by decide) (@pa_cons _ _ _ _ _ (@pe_op _ _ _ _ _ _ _ _ op_mulB (@pe_ix _ _ _ _ _ _ _ ix_list (pv 4) (@pe_int _ _ _ _) (fun _ _ => rfl)) (@pe_ix _ _ _ _ _ _ _ ix_tup (pv 3) (@pe_int _ _ _ _) (fun _ _ => rfl))) (@pa_cons _ _ _ _ _ (@pe_op _ _ _ _ _ _ _ _ op_mulB (@pe_ix _ _ _ _ _ _ _ ix_list (pv 4) (@pe_int _ _ _ _) (fun _ _ => rfl)) (@pe_ix _ _ _ _ _ _ _ ix_tup (pv 3) (@pe_int _ _ _ _) (fun _ _ => rfl))) (@pa_cons _ _ _ _ _ (@pe_op _ _ _ _ _ _ _ _ op_mulB (@pe_int _ _ _ _) (@pe_ix _ _ _ _ _ _ _ ix_tup (pv 3) (@pe_int _ _ _ _) (fun _ _ => rfl))) (@pa_nil _) star_bin) star_bin) star_bin) (by rfl) (by decide) (by rfl) (by rfl)) (by rfl) (by first | exact .inl rfl | exact .inr rfl | assumption)) (@pss_cons _ _ _ _ _ (@ps_set _ _ 6 _ _ _ _ sc_law.nd rfl (Or.inl rfl) (@pe_fn _ _ _ _ _ _ _ _ _ _ _ _ _ _ T.l_point (ok_l_point T) hr (by decide) (@pa_cons _ _ _ _ _ (@pe_op _ _ _ _ _ _ _ _ op_mulB (@pe_ix _ _ _ _ _ _ _ ix_list (pv 4) (@pe_int _ _ _ _) (fun _ _ => rfl)) (@pe_ix _ _ _ _ _ _ _ ix_tup (pv 3) (@pe_int _ _ _ _) (fun _ _ => rfl))) (@pa_cons _ _ _ _ _ (@pe_op _ _ _ _ _ _ _ _ op_mulB (@pe_ix _ _ _ _ _ _ _ ix_list (pv 4) (@pe_int _ _ _ _) (fun _ _ => rfl)) (@pe_ix _ _ _ _ _ _ _ ix_tup (pv 3) (@pe_int _ _ _ _) (fun _ _ => rfl))) (@pa_cons _ _ _ _ _ (@pe_op _ _ _ _ _ _ _ _ op_mulB (@pe_int _ _ _ _) (@pe_ix _ _ _ _ _ _ _ ix_tup (pv 3) (@pe_int _ _ _ _) (fun _ _ => rfl))) (@pa_nil _) star_bin) star_bin) star_bin) (by rfl) (by decide) (by rfl) (by rfl)) (by rfl) (by first | exact .inl rfl | exact .inr rfl | assumption)) (@pss_cons _ _ _ _ _ (@ps_set _ _ 7 _ _ _ _ sc_law.nd rfl (Or.inl rfl) (@pe_lst _ _ _ _ (@pa_nil _)) (by rfl) (by first | exact .inl rfl | exact .inr rfl | assumption)) (@pss_cons _ _ _ _ _ (@ps_set _ _ 8 _ _ _ _ sc_law.nd rfl (Or.inl rfl) (@pe_tup _ _ _ _ _ (@pa_cons _ _ _ _ _ (@pe_int _ _ _ _) (@pa_cons _ _ _ _ _ (@pe_int _ _ _ _) (@pa_nil _) star_con) star_con)) (by rfl) (by first | exact .inl rfl | exact .inr rfl | assumption)) (@pss_cons _ _ _ _ _ (@ps_for _ _ _ _ _ _ _ _ PassesOwn.never rfl (@pi_range1 _ _ _ _ _ _ rfl T.b_range (@pa_cons _ _ _ _ _ (@pe_fn _ _ _ _ _ _ _ _ _ _ _ _ _ _ T.l_draw (ok_l_draw T) hr (by decide) (@pa_cons _ _ _ _ _ (pv 1) (@pa_cons _ _ _ _ _ (@pe_int _ _ _ _) (@pa_nil _) star_con) star_name) (by rfl) (by decide) (by rfl) (by rfl)) (@pa_nil _) star_call) (by rfl)) (@pg_name _ _ 9 _ sc_law.nd rfl (Or.inl rfl) (by first | exact .inl rfl | exact .inr rfl | assumption)) (@pss_cons _ _ _ _ _ (@ps_if _ _ _ _ _ _ _ _ (@pt_cmpR _ _ _ _ _ _ _ _ op_eq (@pe_fn _ _ _ _ _ _ _ _ _ _ _ _ _ _ T.l_draw (ok_l_draw T) hr (by decide) (@pa_cons _ _ _ _ _ (pv 1) (@pa_cons _ _ _ _ _ (@pe_int _ _ _ _) (@pa_nil _) star_con) star_name) (by rfl) (by decide) (by rfl) (by rfl)) (@pe_int _ _ _ _) (nomark _)) (@pss_cons _ _ _ _ _ (@ps_set _ _ 10 _ _ _ _ sc_law.nd rfl (Or.inl rfl) (@pe_op _ _ _ _ _ _ _ _ op_sub (@pe_fn _ _ _ _ _ _ _ _ _ _ _ _ _ _ T.l_draw (ok_l_draw T) hr (by decide) (@pa_cons _ _ _ _ _ (pv 1) (@pa_cons _ _ _ _ _ (@pe_int _ _ _ _) (@pa_nil _) star_con) star_name) (by rfl) (by decide) (by rfl) (by rfl)) (@pe_int _ _ _ _)) (by rfl) (by first | exact .inl rfl | exact .inr rfl | assumption)) (@pss_one _ _ _ (@ps_set _ _ 8 _ _ _ _ sc_law.nd rfl (Or.inl rfl) (@pe_tup _ _ _ _ _ (@pa_cons _ _ _ _ _ (pv 10) (@pa_cons _ _ _ _ _ (@pe_op _ _ _ _ _ _ _ _ op_sub (@pe_fn _ _ _ _ _ _ _ _ _ _ _ _ _ _ T.l_draw (ok_l_draw T) hr (by decide) (@pa_cons _ _ _ _ _ (pv 1) (@pa_cons _ _ _ _ _ (@pe_int _ _ _ _) (@pa_nil _) star_con) star_name) (by rfl) (by decide) (by rfl) (by rfl)) (@pe_int _ _ _ _)) (@pa_nil _) star_bin) star_name)) (by rfl) (by first | exact .inl rfl | exact .inr rfl | assumption)))) (@pss_cons _ _ _ _ _ (@ps_set _ _ 10 _ _ _ _ sc_law.nd rfl (Or.inl rfl) (@pe_callB _ _ _ _ _ _ _ _ _ (call_min2 rfl) (by rfl) T.b_min PyProof.Rows.boot_min (@pa_cons _ _ _ _ _ (@pe_int _ _ _ _) (@pa_cons _ _ _ _ _ (@pe_callB _ _ _ _ _ _ _ _ _ (call_max2 rfl) (by rfl) T.b_max PyProof.Rows.boot_max (@pa_cons _ _ _ _ _ (@pe_un _ _ _ _ _ _ un_neg (@pe_int _ _ _ _)) (@pa_cons _ _ _ _ _ (@pe_op _ _ _ _ _ _ _ _ op_sub (@pe_op _ _ _ _ _ _ _ _ op_add (@pe_ix _ _ _ _ _ _ _ ix_tup (pv 8) (@pe_int _ _ _ _) (fun _ _ => rfl)) (@pe_fn _ _ _ _ _ _ _ _ _ _ _ _ _ _ T.l_draw (ok_l_draw T) hr (by decide) (@pa_cons _ _ _ _ _ (pv 1) (@pa_cons _ _ _ _ _ (@pe_int _ _ _ _) (@pa_nil _) star_con) star_name) (by rfl) (by decide) (by rfl) (by rfl))) (@pe_int _ _ _ _)) (@pa_nil _) star_bin) star_un) (by decide) (by decide) (by rfl) (by rfl)) (@pa_nil _) star_call) star_con) (by decide) (by decide) (by rfl) (by rfl)) (by rfl) (by first | exact .inl rfl | exact .inr rfl | assumption)) (@pss_one _ _ _ (@ps_set _ _ 8 _ _ _ _ sc_law.nd rfl (Or.inl rfl) (@pe_tup _ _ _ _ _ (@pa_cons _ _ _ _ _ (pv 10) (@pa_cons _ _ _ _ _ (@pe_callB _ _ _ _ _ _ _ _ _ (call_min2 rfl) (by rfl) T.b_min PyProof.Rows.boot_min (@pa_cons _ _ _ _ _ (@pe_int _ _ _ _) (@pa_cons _ _ _ _ _ (@pe_callB _ _ _ _ _ _ _ _ _ (call_max2 rfl) (by rfl) T.b_max PyProof.Rows.boot_max (@pa_cons _ _ _ _ _ (@pe_un _ _ _ _ _ _ un_neg (@pe_int _ _ _ _)) (@pa_cons _ _ _ _ _ (@pe_op _ _ _ _ _ _ _ _ op_sub (@pe_op _ _ _ _ _ _ _ _ op_add (@pe_ix _ _ _ _ _ _ _ ix_tup (pv 8) (@pe_int _ _ _ _) (fun _ _ => rfl)) (@pe_fn _ _ _ _ _ _ _ _ _ _ _ _ _ _ T.l_draw (ok_l_draw T) hr (by decide) (@pa_cons _ _ _ _ _ (pv 1) (@pa_cons _ _ _ _ _ (@pe_int _ _ _ _) (@pa_nil _) star_con) star_name) (by rfl) (by decide) (by rfl) (by rfl))) (@pe_int _ _ _ _)) (@pa_nil _) star_bin) star_un) (by decide) (by decide) (by rfl) (by rfl)) (@pa_nil _) star_call) star_con) (by decide) (by decide) (by rfl) (by rfl)) (@pa_nil _) star_call) star_name)) (by rfl) (by first | exact .inl rfl | exact .inr rfl | assumption))))) (@pss_one _ _ _ (@ps_expr _ _ _ _ (@pe_bm _ _ _ _ _ _ _ _ _ _ _ _ PySem.F.plainAttrs_list PySem.F.slot_list_append PySem.F.type_list_append mt_append (pv 7) (@pa_cons _ _ _ _ _ (pv 8) (@pa_nil _) star_name) (by rfl) (by rfl) (by rfl) (by rfl) (by rfl)) (by rfl)))) (by intro _; rfl)) (@pss_cons _ _ _ _ _ (@ps_set _ _ 11 _ _ _ _ sc_law.nd rfl (Or.inl rfl) (@pe_callTy _ _ _ _ _ _ _ _ _ call_list_of (by rfl) T.b_list PyProof.Rows.boot_list (@pa_cons _ _ _ _ _ (pv 7) (@pa_nil _) star_name) (by decide) (by decide) (by rfl) (by rfl)) (by rfl) (by first | exact .inl rfl | exact .inr rfl | assumption)) (@pss_cons _ _ _ _ _ (@ps_set _ _ 12 _ _ _ _ sc_law.nd rfl (Or.inl rfl) (@pe_fn _ _ _ _ _ _ _ _ _ _ _ _ _ _ T.thread_of (ok_thread_of hB T) hr (by decide) (@pa_cons _ _ _ _ _ (pv 5) (@pa_cons _ _ _ _ _ (pv 6) (@pa_cons _ _ _ _ _ (pv 11) (@pa_cons _ _ _ _ _ (pv 3) (@pa_nil _) star_name) star_name) star_name) star_name) (by rfl) (by decide) (by rfl) (by rfl)) (by rfl) (by first | exact .inl rfl | exact .inr rfl | assumption)) (@pss_cons _ _ _ _ _ (@ps_if _ _ _ _ _ _ _ _ (PW.pt (@pw_or _ _ _ _ _ _ _ (@pt_cmpR _ _ _ _ _ _ _ _ (op_neLTI hr.units) (pv 11) (pv 7) (nomark _)) (@pw_or _ _ _ _ _ _ _ (@pt_not _ _ _ _ (@pt_val _ _ _ (@pe_fn _ _ _ _ _ _ _ _ _ _ _ _ _ _ T.l_cells (ok_l_cells T) hr (by decide) (@pa_cons _ _ _ _ _ (pv 12) (@pa_nil _) star_name) (by rfl) (by decide) (by rfl) (by rfl)) (by intro _; rfl))) (@pw_or1 _ _ _ _ (@pt_not _ _ _ _ (@pt_val _ _ _ (@pe_fn _ _ _ _ _ _ _ _ _ _ _ _ _ _ T.l_in_row (ok_l_in_row T) hr (by decide) (@pa_cons _ _ _ _ _ (pv 12) (@pa_cons _ _ _ _ _ (pv 5) (@pa_cons _ _ _ _ _ (pv 6) (@pa_nil _) star_name) star_name) star_name) (by rfl) (by decide) (by rfl) (by rfl)) (by intro _; rfl))))))) (@pss_one _ _ _ (@ps_ret _ _ _ _ (@pe_bl _ _ _ _))) (@pss_nil _)) (@pss_cons _ _ _ _ _ (@ps_set _ _ 13 _ _ _ _ sc_law.nd rfl (Or.inl rfl) pe_dnewT (by rfl) (by first | exact .inl rfl | exact .inr rfl | assumption)) (@pss_cons _ _ _ _ _ (@ps_for _ _ _ _ _ _ _ _ PassesOwn.never rfl (@pi_list _ _ _ _ (pv 7)) (@pg_name _ _ 8 _ sc_law.nd rfl (Or.inl rfl) (by first | exact .inl rfl | exact .inr rfl | assumption)) (@pss_cons _ _ _ _ _ (@ps_if _ _ _ _ _ _ _ _ (@pt_cmpR _ _ _ _ _ _ _ _ op_ne (@pe_fn _ _ _ _ _ _ _ _ _ _ _ _ _ _ T.meets_cell (ok_meets_cell T) hr (by decide) (@pa_cons _ _ _ _ _ (pv 5) (@pa_cons _ _ _ _ _ (pv 6) (@pa_cons _ _ _ _ _ (pv 8) (@pa_cons _ _ _ _ _ (pv 3) (@pa_nil _) star_name) star_name) star_name) star_name) (by rfl) (by decide) (by rfl) (by rfl)) (@pe_cmpR _ _ _ _ _ _ _ _ (op_inT hr.units65) (pv 8) (pv 12) rfl) (nomark _)) (@pss_one _ _ _ (@ps_ret _ _ _ _ (@pe_bl _ _ _ _))) (@pss_nil _)) (@pss_one _ _ _ (@ps_if _ _ _ _ _ _ _ _ (@pt_val _ _ _ (@pe_fn _ _ _ _ _ _ _ _ _ _ _ _ _ _ T.l_meets (ok_l_meets T) hr (by decide) (@pa_cons _ _ _ _ _ (pv 5) (@pa_cons _ _ _ _ _ (pv 6) (@pa_cons _ _ _ _ _ (pv 8) (@pa_cons _ _ _ _ _ (pv 3) (@pa_nil _) star_name) star_name) star_name) star_name) (by rfl) (by decide) (by rfl) (by rfl)) (by intro _; rfl)) (@pss_one _ _ _ (ps_dput (hu_of hr) (pv 13) (pv 8) (@pe_bl _ _ _ _) rfl)) (@pss_nil _)))) (by intro _; rfl)) (@pss_cons _ _ _ _ _ (@ps_if _ _ _ _ _ _ _ _ (@pt_cmpR _ _ _ _ _ _ _ _ (op_neLTI hr.units) (@pe_callB _ _ _ _ _ _ _ _ _ (call_sortT srcOk_list) (by rfl) T.b_sorted PyProof.Rows.boot_sorted (@pa_cons _ _ _ _ _ (pv 12) (@pa_nil _) star_name) (by decide) (by decide) (by rfl) (by rfl)) (@pe_callB _ _ _ _ _ _ _ _ _ (call_sortT srcOk_list) (by rfl) T.b_sorted PyProof.Rows.boot_sorted (@pa_cons _ _ _ _ _ (@pe_callTy _ _ _ _ _ _ _ _ _ (call_listD rfl) (by rfl) T.b_list PyProof.Rows.boot_list (@pa_cons _ _ _ _ _ (pv 13) (@pa_nil _) star_name) (by decide) (by decide) (by rfl) (by rfl)) (@pa_nil _) star_call) (by decide) (by decide) (by rfl) (by rfl)) (nomark _)) (@pss_one _ _ _ (@ps_ret _ _ _ _ (@pe_bl _ _ _ _))) (@pss_nil _)) (@pss_cons _ _ _ _ _ (@ps_set _ _ 14 _ _ _ _ sc_law.nd rfl (Or.inl rfl) (@pe_callTy _ _ _ _ _ _ _ _ _ call_list_of (by rfl) T.b_list PyProof.Rows.boot_list (@pa_cons _ _ _ _ _ (pv 12) (@pa_nil _) star_name) (by decide) (by decide) (by rfl) (by rfl)) (by rfl) (by first | exact .inl rfl | exact .inr rfl | assumption)) (@pss_cons _ _ _ _ _ (@ps_expr _ _ _ _ (@pe_bm0 _ _ _ _ _ _ _ _ _ PySem.F.plainAttrs_list PySem.F.slot_list_clear PySem.F.type_list_clear mt_clear (pv 12) (by rfl) (by rfl)) (by rfl)) (@pss_cons _ _ _ _ _ (@ps_if _ _ _ _ _ _ _ _ (PW.pt (@pw_or _ _ _ _ _ _ _ (@pt_cmpR _ _ _ _ _ _ _ _ (op_neLTI hr.units) (pv 11) (pv 7) (nomark _)) (@pw_or1 _ _ _ _ (@pt_cmpR _ _ _ _ _ _ _ _ (op_neLTI hr.units) (@pe_fn _ _ _ _ _ _ _ _ _ _ _ _ _ _ T.thread_of (ok_thread_of hB T) hr (by decide) (@pa_cons _ _ _ _ _ (pv 5) (@pa_cons _ _ _ _ _ (pv 6) (@pa_cons _ _ _ _ _ (pv 11) (@pa_cons _ _ _ _ _ (pv 3) (@pa_nil _) star_name) star_name) star_name) star_name) (by rfl) (by decide) (by rfl) (by rfl)) (pv 14) (nomark _))))) (@pss_one _ _ _ (@ps_ret _ _ _ _ (@pe_bl _ _ _ _))) (@pss_nil _)) (@pss_one _ _ _ (@ps_ret _ _ _ _ (@pe_cmpR _ _ _ _ _ _ _ _ (op_eqLTI hr.units) (@pe_fn _ _ _ _ _ _ _ _ _ _ _ _ _ _ T.thread_of (ok_thread_of hB T) hr (by decide) (@pa_cons _ _ _ _ _ (pv 6) (@pa_cons _ _ _ _ _ (pv 5) (@pa_cons _ _ _ _ _ (pv 11) (@pa_cons _ _ _ _ _ (pv 3) (@pa_nil _) star_name) star_name) star_name) star_name) (by rfl) (by decide) (by rfl) (by rfl)) (@pe_sliceR _ _ _ _ _ _ _ _ _ _ _ (pv 14) (@po_none _) (@po_none _) (@po_some _ _ _ (@pe_un _ _ _ _ _ _ un_neg (@pe_int _ _ _ _)))) (nomark _))))))))))))))))))))))), ?_⟩
    have b2 : Bd 2 (2 : Int) := by unfold Bd; decide
    have tb0 : TabOk H t.p_thread_of lamQ lamP := ⟨#[], hT0, .inl rfl⟩
    refine st_setG (gv_call (R := fun v H' => ∃ hd sc, v = .ref hd ∧ HandAt H' hd sc ∧ Same H H') (pa_c (pu_v rfl) pa_n) fun Q f => ⟨sa, ns, rfl, hS, fun hd sc H' s n hh => f _ _ ⟨hd, sc, rfl, hh, s⟩⟩) ?_
    rintro _ H1 ⟨hd, sc, rfl, hh1, sa1⟩
    have tb1 := tab_same tb0 sa1
    refine st_setG (gv_draw1 hh1 (pa_c (pu_v rfl) (pa_c pu_c pa_n)) (by decide) Bd.small) ?_
    rintro _ H3 ⟨⟨tp, rfl, t0, t1⟩, hh3, s13⟩
    have tb3 := tab_h tb1 s13 hh1.ls
    refine st_setG (R := fun v H' => ∃ x y, TupT H' v [x, y] ∧ 0 < x ∧ 0 < y ∧ Bd 64 x ∧ Bd 64 y ∧ HandAt H' hd sc ∧ SameB hd H3 H') (gv_callA (ga_cons (Pu.gv (v := .int tp) (pu_v rfl)) fun u1 H4 e4 => ga_cons (R1 := fun v H' => (∃ n : Int, v = .int n ∧ 0 < n ∧ n ≤ 8) ∧ HandAt H' hd sc ∧ SameB hd H3 H') ?_ fun _ _ _ => ga_nil) ?_) ?_
    · obtain ⟨rfl, rfl⟩ := e4
      exact gv_draw1 hh3 (pa_c (pu_v rfl) (pa_c pu_c pa_n)) (by decide) Bd.small
    · rintro vs H4 ⟨_, _, r, rfl, ⟨rfl, rfl⟩, _, H5, r2, rfl, ⟨⟨n, rfl, n0, n1⟩, hh5, s5⟩, rfl, rfl⟩ Q f
      exact ⟨tp, n, 64, rfl, n0, by unfold Bd; omega, by unfold Bd; omega, by decide, fun v H' x y s t hy hx _ bx by' => f _ _ ⟨x, y, t, hx t0, hy, bx, by', hh5.same s, fun b o e n => s b o (s5 b o e n)⟩⟩
    rintro vz H4 ⟨s0, s1, tz, hs0, hs1, b0, b1, hh4, s34⟩
    have sg4 : Stg H4 t.p_thread_of hd sc vz s0 s1 := ⟨hh4, tab_h tb3 s34 hh3.ls, tz⟩
    refine st_setG (gv_compR (fun D i ys H' => Stg H' t.p_thread_of hd sc vz s0 s1 ∧ H' D = some (.lst ys) ∧ ∃ xs : List Int, ys = xs.map V.int ∧ xs.length = i ∧ ∀ x ∈ xs, Bd 100 x) (pa_c (pu_c (v := .int 4)) pa_n) (by decide) (by decide) (fun x => ⟨rfl, fun i v h => by cases i with | zero => cases h | succ i => exact h⟩) (fun D hD => ⟨sg4.same (Same.upd hD), upd_same, [], rfl, rfl, fun q h => by simp at h⟩) ?_) ?_
    · rintro D i ys H5 hD hi ⟨sg5, hD5, xs, rfl, hxl, hxb⟩
      have hi' : i < 4 := hi
      have nD := hh4.fresh hD
      refine ⟨by rw [List.length_map, hxl]; exact small1000 (by omega), fun Q q => gv_draw sg5.h (pa_c (pu_v rfl) (pa_c pu_c pa_n)) (by decide) Bd.small _ ?_⟩
      rintro _ H6 ⟨⟨w, rfl, w0, w1⟩, hh6, s56⟩
      have sg6 := sg5.hand hh6 s56
      have hD6 := s56 _ _ hD5 nD.1
      refine pu_c (v := .int 16) _ ⟨w, 16, rfl, rfl, q _ _ ⟨hD6, sg6.upd nD hD6, upd_same, xs ++ [w - 16], by rw [List.map_append]; rfl, by rw [List.length_append, hxl]; rfl, fun x hx => ?_⟩⟩
      rcases List.mem_append.mp hx with hx | hx
      · exact hxb x hx
      · rw [List.mem_singleton.mp hx]
        unfold Bd
        omega
    rintro _ H6 ⟨l, _, hl4, rfl, sg6, hxs, xs, rfl, hxl, hxb⟩
    have nl := hh4.fresh hl4
    have hxl4 : xs.length = 4 := hxl
    obtain ⟨x0, x1, x2, x3, rfl⟩ : ∃ x0 x1 x2 x3, xs = [x0, x1, x2, x3] := by
      match xs, hxl4 with
      | [x0, x1, x2, x3], _ => exact ⟨_, _, _, _, rfl⟩
    have bx0 := hxb x0 (by simp)
    have bx1 := hxb x1 (by simp)
    have bx2 := hxb x2 (by simp)
    have bx3 := hxb x3 (by simp)
    have IL : ∀ {σ : L2.St} {H' : Hp} {y0 y1 y2 y3 w : Int} {m : Int}, H' l = some (.lst ([y0, y1, y2, y3].map V.int)) → σ[4]? = some (some (.ref l)) → atI ([y0, y1, y2, y3].map V.int) m = some (.int w) → Pu (tOp (rIxL K) (tVar 4) (tC (.int m))) σ H' (.int w) := fun h1 h2 h3 => pu_ixL (pu_v h2) pu_c (SqL.of h1) h3
    refine st_ifR (fun σ' H' => σ' = [some (.ref sa), some (.ref hd), some (.int tp), some vz, some (.ref l), none, none, none, none, none, none, none, none, none, none] ∧ Stg H' t.p_thread_of hd sc vz s0 s1 ∧ ∃ y2 y3 : Int, H' l = some (.lst ([x0, x1, y2, y3].map V.int)) ∧ Bd 101 y2 ∧ Bd 101 y3 ∧ ¬ (x0 = y2 ∧ x1 = y3)) (pt_and (pt_t (pu_eqI (IL hxs rfl rfl) (IL hxs rfl rfl))) fun _ => pt_t (pu_eqI (IL hxs rfl rfl) (IL hxs rfl rfl))) (fun e D' q => ?_) (fun e => ⟨rfl, sg6, x2, x3, hxs, bx2.mono (by decide), bx3.mono (by decide), ?_⟩) ?_
    · rw [Bool.and_eq_true, decide_eq_true_iff, decide_eq_true_iff] at e
      obtain ⟨e1, e2⟩ := e
      refine ⟨_, rfl, gv_draw sg6.h (pa_c (pu_v rfl) (pa_c pu_c pa_n)) (by decide) Bd.small _ ?_⟩
      rintro _ HE ⟨⟨w, rfl, w0, w1⟩, hhE, sE⟩
      have hxs' := sE _ _ hxs nl.1
      have sgE := sg6.hand hhE sE
      have b1' : Bd 100 (1 : Int) := (Bd.mono (m := 2) (by unfold Bd; decide) (by decide))
      have hw : w = 0 ∨ w = 1 := by omega
      rcases hw with rfl | rfl
      · refine ⟨2, 0, rfl, rfl, ⟨l, _, 2, .int x2, rfl, rfl, by decide, SqL.of hxs', rfl, ⟨x2, 1, rfl, rfl, l, _, 2, 2, rfl, rfl, hxs', rfl, q _ _ ⟨rfl, sgE.upd nl hxs', x2 + 1, x3, upd_same, bx2.add b1', bx3.mono (by decide), ?_⟩⟩⟩⟩
        omega
      · refine ⟨2, 1, rfl, rfl, ⟨l, _, 3, .int x3, rfl, rfl, by decide, SqL.of hxs', rfl, ⟨x3, 1, rfl, rfl, l, _, 3, 3, rfl, rfl, hxs', rfl, q _ _ ⟨rfl, sgE.upd nl hxs', x2, x3 + 1, upd_same, bx2.mono (by decide), bx3.add b1', ?_⟩⟩⟩⟩
        omega
    · rintro ⟨e1, e2⟩
      rw [decide_eq_true e1, decide_eq_true e2] at e
      cases e
    rintro _ HE ⟨rfl, sgE, y2, y3, hy, by2, by3, ne⟩
    obtain ⟨az, rfl, haz⟩ := id sgE.z
    have b4 : Bd 3 (4 : Int) := by unfold Bd; decide
    have bC : Bd 75 (4 * s1) := (b4.mul b1).mono (by decide)
    have hC : 0 < 4 * s1 := by omega
    refine st_setG (gv_point (pa_c (pu_mul (IL hy rfl rfl) (pu_ixT (pu_v rfl) pu_c (SqT.of (haz)) rfl) (mulOk_of (bx0) (b0) (by decide))) (pa_c (pu_mul (IL hy rfl rfl) (pu_ixT (pu_v rfl) pu_c (SqT.of (haz)) rfl) (mulOk_of (bx1) (b0) (by decide))) (pa_c (pu_mul pu_c (pu_ixT (pu_v rfl) pu_c (SqT.of (haz)) rfl) (mulOk_of (b4) (b1) (by decide))) pa_n))) hC (bC.mono (by decide))) ?_
    rintro vp HF ⟨sF, p, tp', ip⟩
    have haz' := sF _ _ haz
    have hy' := sF _ _ hy
    refine st_setG (gv_point (pa_c (pu_mul (IL hy' rfl rfl) (pu_ixT (pu_v rfl) pu_c (SqT.of (haz')) rfl) (mulOk_of (by2) (b0) (by decide))) (pa_c (pu_mul (IL hy' rfl rfl) (pu_ixT (pu_v rfl) pu_c (SqT.of (haz')) rfl) (mulOk_of (by3) (b0) (by decide))) (pa_c (pu_mul pu_c (pu_ixT (pu_v rfl) pu_c (SqT.of (haz')) rfl) (mulOk_of (b4) (b1) (by decide))) pa_n))) hC (bC.mono (by decide))) ?_
    rintro vq HG ⟨sG, q, tq, iq⟩
    have tpG := TupT.same tp' sG
    have sgG := (sgE.same sF).same sG
    have szp : Sz 400 p := Sz.is3 ip ((bx0.mul b0).mono (by decide)) ((bx1.mul b0).mono (by decide)) (bC.mono (by decide))
    have szq : Sz 400 q := Sz.is3 iq ((by2.mul b0).mono (by decide)) ((by3.mul b0).mono (by decide)) (bC.mono (by decide))
    have ap : Apart p q := apart_is3 hC ip iq (by
      rintro ⟨z1, z2⟩
      exact ne ⟨Int.eq_of_mul_eq_mul_right (Int.ne_of_gt hs0) z1, Int.eq_of_mul_eq_mul_right (Int.ne_of_gt hs0) z2⟩)
    have ap' : Apart q p := fun z => ap ⟨z.1.symm, z.2.symm⟩
    refine st_setG (gv_lst pa_n (Nat.zero_le _)) ?_
    rintro _ _ ⟨lc, hlc, rfl, rfl⟩
    have nlc := sgG.h.fresh hlc
    refine st_setG (gv_tup (vs := [.int 0, .int 0]) (pa_c pu_c (pa_c pu_c pa_n)) len2') ?_
    rintro _ _ ⟨pc, hpc, rfl, rfl⟩
    have lp0 : Lp (upd (upd HG lc (.lst [])) pc (.tup [.int 0, .int 0])) t.p_thread_of hd sc lc (.ref az) vp vq (.ref pc) s0 s1 p q 0 := by
      have sI := (Same.upd (o := .lst []) hlc).trans (Same.upd (o := .tup [.int 0, .int 0]) hpc)
      refine ⟨sgG.same sI, TupT.same tpG sI, TupT.same tq sI, ⟨(0, 0), TupT.of (ns := [0, 0]) upd_same, by unfold In4; decide⟩, ⟨[], [], Same.upd hpc _ _ upd_same, .nil, rfl, fun c h => by simp at h⟩, nlc⟩
    revert lp0
    generalize upd (upd HG lc (.lst [])) pc (.tup [.int 0, .int 0]) = HI
    intro lp0
    refine st_rangeG (ga_cons (gv_draw lp0.g.h (pa_c (pu_v rfl) (pa_c pu_c pa_n)) (by decide) Bd.small) fun _ _ _ => ga_nil) ?_
    rintro vs HJ ⟨_, _, r, rfl, ⟨⟨n, rfl, n0, n1⟩, hhJ, sJ⟩, rfl, rfl⟩
    refine ⟨n, rfl, by omega, by omega, fun m σ H' => ∃ (vc : V) (a b : Option V), Lp H' t.p_thread_of hd sc lc (.ref az) vp vq vc s0 s1 p q m ∧ σ = [some (.ref sa), some (.ref hd), some (.int tp), some (.ref az), some (.ref l), some vp, some vq, some (.ref lc), some vc, a, b, none, none, none, none], ⟨_, _, _, lp0.hand hhJ sJ, rfl⟩, ?_, ?_⟩
    · rintro m σ HK hm ⟨vc, a, b, lpK, rfl⟩
      refine st_ifM (R := fun _ H' => HandAt H' hd sc ∧ SameB hd HK H') (fun σ2 H2 => ∃ (vc : V) (a b : Option V), Lp H2 t.p_thread_of hd sc lc (.ref az) vp vq vc s0 s1 p q m ∧ σ2 = [some (.ref sa), some (.ref hd), some (.int tp), some (.ref az), some (.ref l), some vp, some vq, some (.ref lc), some vc, a, b, none, none, none, none]) (fun Q q => gv_draw lpK.g.h (pa_c (pu_v rfl) (pa_c pu_c pa_n)) (by decide) Bd.small _ ?_) ?_ ?_ ?_
      · rintro _ HL ⟨⟨w, rfl, _, _⟩, hhL, sL⟩
        exact pt_t (pu_eqI (ta := tC (.int w)) (tb := tC (.int 0)) (σ := []) (H := HL) pu_c pu_c) Q (q _ _ ⟨hhL, sL⟩)
      · rintro HL D' ⟨hhL, sL⟩ go
        have lpL := lpK.hand hhL sL
        refine st_setG (R := fun v H' => ∃ i : Int, v = .int i ∧ -4 ≤ i ∧ i ≤ 4 ∧ HandAt H' hd sc ∧ SameB hd HL H') (fun Q q => gv_draw lpL.g.h (pa_c (pu_v rfl) (pa_c pu_c pa_n)) (by decide) Bd.small _ fun v H' ⟨⟨w, e, w0, w1⟩, hh, s⟩ => by
          subst e
          exact pu_c (v := .int 4) _ ⟨w, 4, rfl, rfl, q _ _ ⟨_, rfl, by omega, by omega, hh, s⟩⟩) ?_
        rintro _ HM ⟨i, rfl, i0, i1, hhM, sM⟩
        have lpM := lpL.hand hhM sM
        refine st_setG1 (gv_tupG (RA := fun vs H' => ∃ j : Int, vs = [.int i, .int j] ∧ -4 ≤ j ∧ j ≤ 4 ∧ HandAt H' hd sc ∧ SameB hd HM H') (fun Q q => pu_v (v := .int i) rfl _ (gv_draw lpM.g.h (pa_c (pu_v rfl) (pa_c pu_c pa_n)) (by decide) Bd.small _ fun v H' ⟨⟨w, e, w0, w1⟩, hh, s⟩ => by
          subst e
          exact pu_c (v := .int 4) _ ⟨w, 4, rfl, rfl, q _ _ ⟨_, rfl, by omega, by omega, hh, s⟩⟩)) (fun vs H1 r => by obtain ⟨cj, rfl, _⟩ := r; exact len2')) ?_
        rintro _ _ ⟨_, HN, pc, ⟨j, rfl, j0, j1, hhN, sN⟩, hpc, rfl, rfl⟩
        exact go _ _ ⟨.ref pc, _, _, (lpM.hand hhN sN).cell hpc ⟨⟨i0, i1⟩, j0, j1⟩, rfl⟩
      · rintro HL D' ⟨hhL, sL⟩ go
        have lpL := lpK.hand hhL sL
        obtain ⟨c, ⟨ca, rfl, hca⟩, hc4⟩ := lpL.c
        refine st_setG (gv_clamp (R := fun v H' => (∃ e : Int, v = .int e) ∧ HandAt H' hd sc ∧ SameB hd HL H') (fun Q q => (pu_ixT (pu_v rfl) pu_c (SqT.of hca) rfl : Pu _ _ HL (.int c.1)) _ (gv_draw lpL.g.h (pa_c (pu_v rfl) (pa_c pu_c pa_n)) (by decide) Bd.small _ fun v H' ⟨⟨w, e, w0, w1⟩, hh, s⟩ => by
          subst e
          exact ⟨c.1, w, rfl, rfl, pu_c (v := .int 1) _ ⟨c.1 + w, 1, rfl, rfl, q _ _ ⟨⟨_, rfl⟩, hh, s⟩⟩⟩)) fun v H' r => r.1) ?_
        rintro _ HM ⟨_, i, rfl, i0, i1, _, hhM, sM⟩
        have lpM := lpL.hand hhM sM
        obtain ⟨ysL, hysL⟩ := lpL.g.h.ls
        have hcaM := sM _ _ hca (ne_of hca hysL (fun z => nomatch z))
        refine st_setG1 (gv_tupG (RA := fun vs H' => ∃ j : Int, vs = [.int i, .int j] ∧ -4 ≤ j ∧ j ≤ 4 ∧ HandAt H' hd sc ∧ SameB hd HM H') (fun Q q => pu_v (v := .int i) rfl _ (gv_clamp (R := fun v H' => (∃ e : Int, v = .int e) ∧ HandAt H' hd sc ∧ SameB hd HM H') (fun Q q => by
          refine (pu_ixT (pu_v rfl) pu_c (SqT.of hcaM) rfl : Pu _ _ HM (.int c.2)) _ (gv_draw lpM.g.h (pa_c (pu_v rfl) (pa_c pu_c pa_n)) (by decide) Bd.small _ ?_)
          rintro _ H' ⟨⟨w, rfl, w0, w1⟩, hh, s⟩
          exact ⟨c.2, w, rfl, rfl, pu_c (v := .int 1) _ ⟨c.2 + w, 1, rfl, rfl, q _ _ ⟨⟨_, rfl⟩, hh, s⟩⟩⟩) (fun v H' r => r.1) _ fun v H' ⟨_, j, e, j0, j1, _, hh, s⟩ => by
            subst e
            exact q _ _ ⟨j, rfl, j0, j1, hh, s⟩)) (fun vs H1 r => by obtain ⟨cj, rfl, _⟩ := r; exact len2')) ?_
        rintro _ _ ⟨_, HN, pc, ⟨j, rfl, j0, j1, hhN, sN⟩, hpc, rfl, rfl⟩
        exact go _ _ ⟨.ref pc, _, _, (lpM.hand hhN sN).cell hpc ⟨⟨i0, i1⟩, j0, j1⟩, rfl⟩
      · rintro σ2 H2 ⟨vc', a', b', lp2, rfl⟩
        obtain ⟨c, tc, hc⟩ := lp2.c
        obtain ⟨cs, cells, hl2, ct2, hcl, hcb⟩ := lp2.l
        refine st_app1 (R := fun v H' => v = vc' ∧ H2 = H') (pu_v rfl) hl2 (fun Q q => pu_v rfl _ (q _ _ ⟨rfl, rfl⟩)) ?_
        rintro _ _ ⟨rfl, rfl⟩
        have hm' : m < 15 := by omega
        refine ⟨cs, hl2, small1000 (by omega), _, _, _, ⟨lp2.g.upd lp2.n hl2, TupT.upd lp2.p hl2, TupT.upd lp2.q hl2, ⟨c, tc.upd hl2, hc⟩, ⟨cs ++ [_], cells ++ [c], upd_same, (ct2.mono fun _ _ x => x.upd hl2).snoc (tc.upd hl2), by rw [List.length_append, hcl]; rfl, fun x hx => ?_⟩, lp2.n⟩, rfl⟩
        rcases List.mem_append.mp hx with hx | hx
        · exact hcb x hx
        · rw [List.mem_singleton.mp hx]
          exact hc
    rintro σ HK ⟨vc, a, b, lpK, rfl⟩
    obtain ⟨cs, cells, hlK, ctK, hcl, hcb⟩ := lpK.l
    have hcs : cs.length < 64 := by omega
    refine st_setG (gv_copy (pa_c (pu_v rfl) pa_n) hlK) ?_
    rintro _ _ ⟨lh, hlh, rfl, rfl⟩
    have bs1 : Bs (upd HK lh (.lst cs)) t.p_thread_of lc lh (.ref az) vp vq cs s0 s1 p q cells := by
      have s := Same.upd (o := .lst cs) hlh
      exact ⟨tab_same lpK.g.tb s, lpK.g.z.same s, TupT.same lpK.p s, TupT.same lpK.q s, s _ _ hlK, upd_same, ctK.same s⟩
    revert bs1
    generalize upd HK lh (.lst cs) = H1'
    intro bs1
    refine st_setG (gv_thread bs1 (pa_c (pu_v rfl) (pa_c (pu_v rfl) (pa_c (pu_v rfl) (pa_c (pu_v rfl) pa_n)))) bs1.p bs1.q szp szq ip.pos iq.pos b0 b1 hs0 hs1 ap hcb hcs) ?_
    rintro _ H2' ⟨D, zs, cz, rfl, nD, sD, bs2, hD, czt, th⟩
    have czb : ∀ c ∈ cz, In4 c := fun c hc => hcb c ((th.1 c).mp hc).1
    have bd4 : ∀ {c : Int × Int}, In4 c → Bd 400 c.1 ∧ Bd 400 c.2 := fun {c} h => by
      obtain ⟨⟨a1, a2⟩, a3, a4⟩ := h
      exact ⟨by unfold Bd; omega, by unfold Bd; omega⟩
    have czl : zs.length ≤ 1000 := by
      have h1 := czt.len
      have h2 : cz.length ≤ cells.length := (perm_sub (thread_nd th) fun c hc => ((th.1 c).mp hc).1)
      have h3 := bs2.ct.len
      omega
    have zs64 : zs.length < 64 := by
      have h1 := czt.len
      have h2 : cz.length ≤ cells.length := (perm_sub (thread_nd th) fun c hc => ((th.1 c).mp hc).1)
      have h3 := bs2.ct.len
      omega
    obtain ⟨cm, _⟩ := cells_mem czt
    refine st_ifN (b := false) (pu_cast2 (pt_or (pt_t (pu_neL (pu_v rfl) (pu_v rfl) (SqL.of bs2.lh) (SqL.of bs2.lc) bs2.ct bs2.ct)) fun _ => pt_or (pt_n (b := true) (pt_b (pu_call (pa_c (pu_v rfl) pa_n) fun Q f => ⟨D, zs, rfl, hD, fun v hv => ?_, f⟩))) fun _ => pt_n (b := true) (pt_b (pu_call (pa_c (pu_v rfl) (pa_c (pu_v rfl) (pa_c (pu_v rfl) pa_n))) fun Q f => ⟨D, zs, vp, vq, p, q, rfl, hD, czl, fun v hv => ?_, bs2.p, bs2.q, szp, szq, fun n v w e1 e2 => ?_, f⟩))) (by simp)) (fun e => by cases e) fun _ => ?_
    · obtain ⟨c, _, tv⟩ := cm v hv
      exact ⟨_, _, tv⟩
    · obtain ⟨c, hc, tv⟩ := cm v hv
      exact ⟨_, _, tv, (bd4 (czb c hc)).1, (bd4 (czb c hc)).2⟩
    · obtain ⟨c, f1, tv⟩ := czt.get e1
      obtain ⟨c', f2, tw⟩ := czt.get e2
      rw [cellAt_of tv, cellAt_of tw]
      exact thread_step hs1 th f1 f2
    refine st_setG gv_newT ?_
    rintro _ _ ⟨d, hdn, rfl, rfl⟩
    have sN := Same.upd (o := .dT (dInt [])) hdn
    have bs3 := bs2.same sN
    have hD3 := sN _ _ hD
    have czt3 := czt.same sN
    have hd3 : upd H2' d (.dT (dInt [])) d = some (.dT (dInt [])) := upd_same
    revert bs3 hD3 czt3 hd3
    generalize upd H2' d (.dT (dInt [])) = H3'
    intro bs3 hD3 czt3 hd3
    have ncD : lc ≠ D := fun z => by rw [← z, bs1.lc] at nD; cases nD
    have nhD : lh ≠ D := fun z => by rw [← z, bs1.lh] at nD; cases nD
    refine st_list (K := K) (xs := cs) (pu_v rfl) (fun i σ H' => ∃ (kvs : List (List Int × V)) (z : Option V), σ = [some (.ref sa), some (.ref hd), some (.int tp), some (.ref az), some (.ref l), some vp, some vq, some (.ref lc), z, a, b, some (.ref lh), some (.ref D), some (.ref d), none] ∧ Bs H' t.p_thread_of lc lh (.ref az) vp vq cs s0 s1 p q cells ∧ H' D = some (.lst zs) ∧ CellsT H' zs cz ∧ H' d = some (.dT (dInt kvs)) ∧ kvs.length ≤ i ∧ (∀ pr ∈ kvs, ∃ c, pr.1 = two c ∧ c ∈ cells ∧ MeetP p q c.1 c.2 s0 s1) ∧ (∀ j c, j < i → cells[j]? = some c → MeetP p q c.1 c.2 s0 s1 → two c ∈ kvs.map (·.1))) ⟨[], _, rfl, bs3, hD3, czt3, hd3, Nat.le_refl _, fun pr h => by simp at h, fun j c h => by omega⟩ (fun i σ H' _ ⟨_, _, _, g, _⟩ => SqL.of g.lc) ?_ ?_
    · rintro i x σ H4 hx ⟨kvs, z, rfl, bs4, hD4, czt4, hd4, hk4, ha4, hb4⟩
      obtain ⟨c, hci, tx⟩ := bs4.ct.get hx
      have hcc : c ∈ cells := List.mem_of_getElem? hci
      obtain ⟨bi, bj⟩ := bd4 (hcb c hcc)
      have hi : i < cs.length := (List.getElem?_eq_some_iff.mp hx).1
      refine st_ifNG (R := fun bb H5 => bb = false ∧ Same H4 H5) (gt_of (R := fun v H5 => v = .bl false ∧ Same H4 H5) (fun Q q => ?_) (fun v H' r => ⟨false, r.1, rfl, r.2⟩)) (fun H5 r => absurd r.1 (by decide)) (fun H5 r => ?_)
      · refine gv_call (sp := sp_meets_cell) (E := E0) (R := fun v H5 => ∃ bb, v = .bl bb ∧ Same H4 H5 ∧ (bb = true ↔ MeetP p _ c.1 c.2 s0 s1)) (pa_c (pu_v rfl) (pa_c (pu_v rfl) (pa_c (pu_v rfl) (pa_c (pu_v rfl) pa_n)))) (fun Q f => ⟨vp, vq, x, .ref az, p, _, c.1, c.2, s0, s1, rfl, bs4.p, bs4.q, tx, bs4.z, szp, szq, bi, bj, b0.mono (by decide), b1.mono (by decide), ip.pos, iq.pos, hs0, hs1, ap, fun b H' s z => f _ _ ⟨b, rfl, s, z⟩⟩) _ ?_
        rintro _ H5 ⟨bb, rfl, s5, hbb⟩
        have e : bb = decide (two c ∈ cz.map two) := by
          rw [Bool.eq_iff_iff, decide_eq_true_iff, two_mem, hbb, th.1 c]
          exact ⟨fun h => ⟨hcc, h⟩, fun h => h.2⟩
        refine (pu_neB (ta := tC (.bl bb)) pu_c (pu_inT (K := K) (pu_v rfl) (pu_v rfl) (s5 _ _ hD4) (czt4.same s5) (tx.same s5))) Q (q _ _ ⟨?_, s5⟩)
        rw [e]
        show V.bl (!(decide (two c ∈ cz.map two) == decide (two c ∈ cz.map two))) = _
        simp
      · obtain ⟨_, s5⟩ := r
        have bs5 := bs4.same s5
        refine st_ifNG1 (gt_b (R := fun v H6 => ∃ bb, v = .bl bb ∧ Same H5 H6 ∧ (bb = true ↔ MeetP p q c.1 c.2 s0 s1)) (gv_call (pa_c (pu_v rfl) (pa_c (pu_v rfl) (pa_c (pu_v rfl) (pa_c (pu_v rfl) pa_n)))) fun Q f => ⟨vp, vq, x, .ref az, p, q, c.1, c.2, s0, s1, rfl, bs5.p, bs5.q, tx.same s5, bs5.z, szp, szq, bi, bj, b0.mono (by decide), b1.mono (by decide), ip.pos, iq.pos, hs0, hs1, ap, fun b H' s z => f _ _ ⟨b, rfl, s, z⟩⟩) (fun v H' ⟨bb, e, _⟩ => ⟨bb, e⟩)) (fun H6 r => ?_) (fun H6 r => ?_)
        · obtain ⟨bb, eb, s6, hbb⟩ := r
          cases eb
          have m := hbb.mp rfl
          have s46 := s5.trans s6
          have bs6 := bs4.same s46
          have hd6 := s46 _ _ hd4
          refine st_putT1 (ks := two c) pu_c (pu_v rfl) (pu_v rfl) (tx.same s46) hd6 (by omega) ⟨putI kvs (two c) (.bl true), _, rfl, bs6.but SameB.upd hd6 (fun _ z => nomatch z) (fun _ z => nomatch z) (ne_of bs6.lc hd6 (fun z => nomatch z)) (ne_of bs6.lh hd6 (fun z => nomatch z)), ?_, (czt4.same s46).mono fun _ _ x => tup_b x SameB.upd hd6, upd_same, ?_, ?_, ?_⟩
          · have h := s46 _ _ hD4
            rw [upd_ne (ne_of h hd6 (fun z => nomatch z))]
            exact h
          · have := congrArg List.length (putI_keys kvs (two c) (.bl true))
            rw [List.length_map] at this
            rw [this]
            split
            · rw [List.length_map]; omega
            · rw [List.length_append, List.length_map, List.length_singleton]; omega
          · exact putI_all (F := fun k _ => ∃ c, k = two c ∧ c ∈ cells ∧ MeetP p q c.1 c.2 s0 s1) ha4 ⟨c, rfl, hcc, m⟩
          · intro j c' hj hjc hm
            rw [putI_keys]
            by_cases e : j = i
            · subst e
              rw [hci] at hjc; cases hjc
              split
              · assumption
              · exact List.mem_append_right _ (List.mem_singleton.mpr rfl)
            · have := hb4 j c' (by omega) hjc hm
              split
              · exact this
              · exact List.mem_append_left _ this
        · obtain ⟨bb, eb, s6, hbb⟩ := r
          cases eb
          have s46 := s5.trans s6
          refine ⟨kvs, _, rfl, bs4.same s46, s46 _ _ hD4, czt4.same s46, s46 _ _ hd4, by omega, ha4, fun j c' hj hjc hm => ?_⟩
          by_cases e : j = i
          · subst e
            rw [hci] at hjc; cases hjc
            cases hbb.mpr hm
          · exact hb4 j c' (by omega) hjc hm
    rintro σ H4 ⟨kvs, z, rfl, bs4, hD4, czt4, hd4, hk4, ha4, hb4⟩
    have hne2 : ∀ {cs : List (Int × Int)}, ∀ ns ∈ cs.map two, ns ≠ [] := fun {cs} ns h => by
      obtain ⟨c, _, rfl⟩ := List.mem_map.mp h
      unfold two
      simp
    have hkne : ∀ ns ∈ kvs.map (·.1), ns ≠ [] := fun ns h => by
      obtain ⟨pr, hpr, rfl⟩ := List.mem_map.mp h
      obtain ⟨c, e, _⟩ := ha4 pr hpr
      rw [e]
      unfold two
      simp
    have hkeys : ((kvs.map (·.1)).Nodup) → (cz.map two).Perm (kvs.map (·.1)) := fun nd => by
      refine perm_of_mem ?_ nd fun ns => ?_
      · have := thread_nd th
        rw [List.nodup_iff_pairwise_ne] at this ⊢
        rw [List.pairwise_map]
        exact this.imp fun h e => h (two_inj e)
      · constructor
        · intro h
          obtain ⟨c, hc, rfl⟩ := List.mem_map.mp h
          obtain ⟨h1, h2⟩ := (th.1 c).mp hc
          obtain ⟨j, hj, ej⟩ := List.getElem_of_mem h1
          have hl := bs4.ct.len
          exact hb4 j c (by omega) (by rw [List.getElem?_eq_getElem hj, ej]) h2
        · intro h
          obtain ⟨pr, hpr, rfl⟩ := List.mem_map.mp h
          obtain ⟨c, e, h1, h2⟩ := ha4 pr hpr
          rw [e]
          exact List.mem_map_of_mem ((th.1 c).mpr ⟨h1, h2⟩)
    refine st_ifNG (R := fun bb H5 => bb = false ∧ Same H4 H5) (gt_of (R := fun v H5 => v = .bl false ∧ Same H4 H5) (gv_cmpL (neg := true) (gv_sortT (K := K) (pa_c (pu_v rfl) pa_n) hD4 zs64 czt4 hne2) (RB := fun v H5 y H7 => ∃ D2 D3 ys2 zs2, H5 D2 = none ∧ upd H5 D2 (.lst ys2) D3 = none ∧ y = .ref D3 ∧ H7 = upd (upd H5 D2 (.lst ys2)) D3 (.lst zs2) ∧ KeysD H5 (dInt kvs) ys2 ∧ ((dInt kvs).map (·.1)).Nodup ∧ SortBy .non ys2 (kvs.map (·.1)) zs2) (fun v H5 r => ?_) ?_) (fun v H' r => ⟨false, r.1, rfl, r.2⟩)) (fun H5 r => absurd r.1 (by decide)) (fun H5 r => ?_)
    · obtain ⟨D1, zs1, nD1, rfl, rfl, hs1'⟩ := r
      have hd5 := Same.upd (o := .lst zs1) nD1 _ _ hd4
      intro Q q
      refine gv_listD (pa_c (pu_v rfl) pa_n) hd5 _ ?_
      rintro _ _ ⟨D2, ys2, nD2, rfl, rfl, ky, nd⟩
      have ty := keysD_ints ky
      refine gv_sortT (K := K) (t := tCons (tC (.ref D2)) tNil) (σ := []) (pa_c pu_c pa_n) upd_same ?_ (Paired.mapP ty fun _ _ x => x.same (Same.upd nD2)) hkne Q ?_
      · have := Paired.length ty
        rw [List.length_map] at this
        omega
      · rintro _ _ ⟨D3, zs2, nD3, rfl, rfl, hs2⟩
        exact q _ _ ⟨D2, D3, ys2, zs2, nD2, nD3, rfl, rfl, ky, nd, hs2⟩
    · rintro _ _ _ _ ⟨D1, zs1, nD1, rfl, rfl, hs1'⟩ ⟨D2, D3, ys2, zs2, nD2, nD3, rfl, rfl, ky, nd, hs2⟩
      obtain ⟨m1, p1, t1, w1⟩ := sort_tups hs1' czt4
      have ty := keysD_ints ky
      obtain ⟨m2, p2, t2, w2⟩ := sort_tups hs2 ty
      have e : m1 = m2 := lex_one ((p1.trans (hkeys (nodup_ints nd))).trans p2.symm) w1 w2
      have sA := Same.upd (o := .lst zs1) nD1
      have sB := (Same.upd (o := .lst ys2) nD2).trans (Same.upd (o := .lst zs2) nD3)
      refine ⟨D1, D3, zs1, zs2, m1, m2, rfl, rfl, sB _ _ upd_same, upd_same, Paired.mapP t1 fun _ _ x => (x.same sA).same sB, Paired.mapP t2 fun _ _ x => x.same sB, ?_, sA.trans sB⟩
      simp [e]
    obtain ⟨_, s5⟩ := r
    have bs5 := bs4.same s5
    have hD5 := s5 _ _ hD4
    have czt5 := czt4.same s5
    refine st_setG (gv_copy (pa_c (pu_v rfl) pa_n) hD5) ?_
    rintro _ _ ⟨lk, nlk, rfl, rfl⟩
    have sK := Same.upd (o := .lst zs) nlk
    have bs6 := bs5.same sK
    have hD6 := sK _ _ hD5
    have hk6 : upd H5 lk (.lst zs) lk = some (.lst zs) := upd_same
    have czt6 := czt5.same sK
    have nkD : lk ≠ D := fun z => by rw [z, hD5] at nlk; cases nlk
    refine st_clear (pu_v rfl) hD6 ?_
    have bs7 := bs6.but (SameB.upd (o := .lst [])) hD6 (fun _ z => nomatch z) (fun _ z => nomatch z) ncD nhD
    have hk7 : upd (upd H5 lk (.lst zs)) D (.lst []) lk = some (.lst zs) := by rw [upd_ne nkD]; exact hk6
    have czt7 : CellsT (upd (upd H5 lk (.lst zs)) D (.lst [])) zs cz := czt6.mono fun _ _ x => x.upd hD6
    revert bs7 hk7 czt7
    generalize upd (upd H5 lk (.lst zs)) D (.lst []) = H7
    intro bs7 hk7 czt7
    have keepK : ∀ {H8 : Hp}, SameB t.p_thread_of H7 H8 → H8 lk = some (.lst zs) ∧ CellsT H8 zs cz := fun {H8} s => by
      obtain ⟨ps, e, _⟩ := bs7.tb
      refine ⟨s _ _ hk7 (fun z => by rw [z, e] at hk7; cases hk7), czt7.mono fun _ _ x => tup_ne x s (fun ys z => by rw [e] at z; cases z)⟩
    refine st_ifNG (R := fun bb H8 => bb = false ∧ Bs H8 t.p_thread_of lc lh (.ref az) vp vq cs s0 s1 p q cells ∧ H8 lk = some (.lst zs) ∧ CellsT H8 zs cz) (gt_or (R := fun bb H8 => bb = false ∧ H7 = H8) (fun Q f => pt_t (pu_neL (pu_v rfl) (pu_v rfl) (SqL.of bs7.lh) (SqL.of bs7.lc) bs7.ct bs7.ct) Q (f _ _ ⟨by simp, rfl⟩)) (fun H8 r => ?_) (fun H8 r => absurd r.1 (by decide))) (fun H8 r => absurd r.1 (by decide)) (fun H8 r => ?_)
    · obtain ⟨_, rfl⟩ := r
      refine gt_of (gv_cmpL (R := fun v H8 => v = .bl false ∧ Bs H8 t.p_thread_of lc lh (.ref az) vp vq cs s0 s1 p q cells ∧ H8 lk = some (.lst zs) ∧ CellsT H8 zs cz) (neg := true) (gv_thread bs7 (pa_c (pu_v rfl) (pa_c (pu_v rfl) (pa_c (pu_v rfl) (pa_c (pu_v rfl) pa_n)))) bs7.p bs7.q szp szq ip.pos iq.pos b0 b1 hs0 hs1 ap hcb hcs) (RB := fun v H8 y H9 => y = .ref lk ∧ H8 = H9) (fun v H8 r Q f => pu_v rfl _ (f _ _ ⟨rfl, rfl⟩)) ?_) (fun v H' r => ⟨false, r.1, rfl, r.2⟩)
      rintro _ H8 _ _ ⟨D2, zs2, cz2, rfl, nD2, s8, bs8, hD8, czt8, th2⟩ ⟨rfl, rfl⟩
      obtain ⟨hk8, czk8⟩ := keepK s8
      refine ⟨D2, lk, zs2, zs, _, _, rfl, rfl, hD8, hk8, czt8, czk8, ?_, bs8, hk8, czk8⟩
      rw [thread_one th2 th]
      simp
    obtain ⟨_, bs8, hk8, czt8⟩ := r
    refine st_retG (R := fun v H' => v = .bl true ∧ ∃ ps, H' t.p_thread_of = some (.ext (TabA t.p_thread_of ps))) (gv_cmpL (neg := false) (gv_thread bs8 (pa_c (pu_v rfl) (pa_c (pu_v rfl) (pa_c (pu_v rfl) (pa_c (pu_v rfl) pa_n)))) bs8.q bs8.p szq szp iq.pos ip.pos b0 b1 hs0 hs1 ap' hcb hcs) (RB := fun v H9 y H10 => ∃ p, H9 p = none ∧ y = .ref p ∧ H10 = upd H9 p (.lst zs.reverse)) (fun v H9 r => gv_slR (pu_v rfl) ?_) ?_) (fun v H' r => by obtain ⟨rfl, r⟩ := r; exact k _ r)
    · obtain ⟨D2, zs2, cz2, rfl, nD2, s9, bs9, hD9, czt9, th3⟩ := r
      obtain ⟨ps, e, _⟩ := bs8.tb
      exact s9 _ _ hk8 fun z => by rw [z, e] at hk8; cases hk8
    · rintro _ H9 _ _ ⟨D2, zs2, cz2, rfl, nD2, s9, bs9, hD9, czt9, th3⟩ ⟨pr, npr, rfl, rfl⟩
      have sP := Same.upd (o := .lst zs.reverse) npr
      obtain ⟨ps8, e8, _⟩ := bs8.tb
      have czk9 : CellsT H9 zs cz := czt8.mono fun _ _ x => tup_ne x s9 fun ys z => by rw [e8] at z; cases z
      obtain ⟨ps, e, _⟩ := bs9.tb
      refine ⟨D2, pr, zs2, zs.reverse, _, (cz.map two).reverse, rfl, rfl, sP _ _ hD9, upd_same, czt9.same sP, TupsT.reverse (czk9.same sP), ?_, ps, sP _ _ e⟩
      rw [thread_one th3 (thread_turn th), List.map_reverse]
      simp
end
theorem all_mk {l : PySem.W.OpenLaw} {w : World} {K : PySem.W.Frag} {h : Heap} {mg : Str → Option Value} {fa : Addr} (X : K.In h) (G : h.Ns mainGlobals mg) (hfa : mg "law" = some (.ref fa))
    {g0 : Addr} (u0 : PySem.W.nsIn K mainGlobals "Track" = some (some (.ref g0)))
    {f0 : Addr} {od0 an0 : Option Addr} {sl0 : Array (Option Value)} {oc0 kV0 dc0 pm0 cd0 ct0 : Value}
    (a0 : PySem.W.nsIn K mainGlobals "check_size" = some (some (.ref f0))) (l0 : K.lookup f0 = some ⟨oc0, od0, .func (PySem.W.fnOf "check_size" "check_size" (defArgs s_check_size) (defBody s_check_size) (defScope s_check_size) .none kV0 dc0 pm0 an0 cd0 ct0), sl0⟩) (c0 : PySem.W.codeIn K cd0 "check_size" = true) (k0 : PySem.W.keepIn K (.ref f0) = true)
    {f1 : Addr} {od1 an1 : Option Addr} {sl1 : Array (Option Value)} {oc1 kV1 dc1 pm1 cd1 ct1 : Value}
    (a1 : PySem.W.nsIn K mainGlobals "nearest_to" = some (some (.ref f1))) (l1 : K.lookup f1 = some ⟨oc1, od1, .func (PySem.W.fnOf "nearest_to" "nearest_to" (defArgs s_nearest_to) (defBody s_nearest_to) (defScope s_nearest_to) .none kV1 dc1 pm1 an1 cd1 ct1), sl1⟩) (c1 : PySem.W.codeIn K cd1 "nearest_to" = true) (k1 : PySem.W.keepIn K (.ref f1) = true)
    {f2 : Addr} {od2 an2 : Option Addr} {sl2 : Array (Option Value)} {oc2 kV2 dc2 pm2 cd2 ct2 : Value}
    (a2 : PySem.W.nsIn K mainGlobals "cell_of" = some (some (.ref f2))) (l2 : K.lookup f2 = some ⟨oc2, od2, .func (PySem.W.fnOf "cell_of" "cell_of" (defArgs s_cell_of) (defBody s_cell_of) (defScope s_cell_of) .none kV2 dc2 pm2 an2 cd2 ct2), sl2⟩) (c2 : PySem.W.codeIn K cd2 "cell_of" = true) (k2 : PySem.W.keepIn K (.ref f2) = true)
    {f3 : Addr} {od3 an3 : Option Addr} {sl3 : Array (Option Value)} {oc3 kV3 dc3 pm3 cd3 ct3 : Value}
    (a3 : PySem.W.findIn K (.ref g0) "__init__" = some (some (.ref f3))) (i3 : PySem.W.isFn K (.ref f3) = true) (l3 : K.lookup f3 = some ⟨oc3, od3, .func (PySem.W.fnOf "__init__" "Track.__init__" (defArgs s_Track_init) (defBody s_Track_init) (defScope s_Track_init) .none kV3 dc3 pm3 an3 cd3 ct3), sl3⟩) (c3 : PySem.W.codeIn K cd3 "Track.__init__" = true) (k3 : PySem.W.keepIn K (.ref f3) = true)
    {f4 : Addr} {od4 an4 : Option Addr} {sl4 : Array (Option Value)} {oc4 kV4 dc4 pm4 cd4 ct4 : Value}
    (a4 : PySem.W.nsIn K mainGlobals "span_on" = some (some (.ref f4))) (l4 : K.lookup f4 = some ⟨oc4, od4, .func (PySem.W.fnOf "span_on" "span_on" (defArgs s_span_on) (defBody s_span_on) (defScope s_span_on) .none kV4 dc4 pm4 an4 cd4 ct4), sl4⟩) (c4 : PySem.W.codeIn K cd4 "span_on" = true) (k4 : PySem.W.keepIn K (.ref f4) = true)
    {f5 : Addr} {od5 an5 : Option Addr} {sl5 : Array (Option Value)} {oc5 kV5 dc5 pm5 cd5 ct5 : Value}
    (a5 : PySem.W.nsIn K mainGlobals "first_met" = some (some (.ref f5))) (l5 : K.lookup f5 = some ⟨oc5, od5, .func (PySem.W.fnOf "first_met" "first_met" (defArgs s_first_met) (defBody s_first_met) (defScope s_first_met) .none kV5 dc5 pm5 an5 cd5 ct5), sl5⟩) (c5 : PySem.W.codeIn K cd5 "first_met" = true) (k5 : PySem.W.keepIn K (.ref f5) = true)
    {f6 : Addr} {od6 an6 : Option Addr} {sl6 : Array (Option Value)} {oc6 kV6 dc6 pm6 cd6 ct6 : Value}
    (a6 : PySem.W.nsIn K mainGlobals "meets_cell" = some (some (.ref f6))) (l6 : K.lookup f6 = some ⟨oc6, od6, .func (PySem.W.fnOf "meets_cell" "meets_cell" (defArgs s_meets_cell) (defBody s_meets_cell) (defScope s_meets_cell) .none kV6 dc6 pm6 an6 cd6 ct6), sl6⟩) (c6 : PySem.W.codeIn K cd6 "meets_cell" = true) (k6 : PySem.W.keepIn K (.ref f6) = true)
    {f7 : Addr} {od7 an7 : Option Addr} {sl7 : Array (Option Value)} {oc7 kV7 dc7 pm7 cd7 ct7 : Value}
    (a7 : PySem.W.nsIn K mainGlobals "cells_about" = some (some (.ref f7))) (l7 : K.lookup f7 = some ⟨oc7, od7, .func (PySem.W.fnOf "cells_about" "cells_about" (defArgs s_cells_about) (defBody s_cells_about) (defScope s_cells_about) .none kV7 dc7 pm7 an7 cd7 ct7), sl7⟩) (c7 : PySem.W.codeIn K cd7 "cells_about" = true) (k7 : PySem.W.keepIn K (.ref f7) = true)
    {f8 : Addr} {od8 an8 : Option Addr} {sl8 : Array (Option Value)} {oc8 kV8 dc8 pm8 cd8 ct8 : Value}
    (a8 : PySem.W.nsIn K mainGlobals "thread_of" = some (some (.ref f8))) (l8 : K.lookup f8 = some ⟨oc8, od8, .func (PySem.W.fnOf "thread_of" "thread_of" (defArgs s_thread_of) (defBody s_thread_of) (defScope s_thread_of) .none kV8 dc8 pm8 an8 cd8 ct8), sl8⟩) (c8 : PySem.W.codeIn K cd8 "thread_of" = true) (k8 : PySem.W.keepIn K (.ref f8) = true)
    {f9 : Addr} {od9 an9 : Option Addr} {sl9 : Array (Option Value)} {oc9 kV9 dc9 pm9 cd9 ct9 : Value}
    (a9 : PySem.W.nsIn K mainGlobals "_law_hand" = some (some (.ref f9))) (l9 : K.lookup f9 = some ⟨oc9, od9, .func (PySem.W.fnOf "_law_hand" "_law_hand" (defArgs s_l_hand) (defBody s_l_hand) (defScope s_l_hand) .none kV9 dc9 pm9 an9 cd9 ct9), sl9⟩) (c9 : PySem.W.codeIn K cd9 "_law_hand" = true) (k9 : PySem.W.keepIn K (.ref f9) = true)
    {f10 : Addr} {od10 an10 : Option Addr} {sl10 : Array (Option Value)} {oc10 kV10 dc10 pm10 cd10 ct10 : Value}
    (a10 : PySem.W.nsIn K mainGlobals "_law_next" = some (some (.ref f10))) (l10 : K.lookup f10 = some ⟨oc10, od10, .func (PySem.W.fnOf "_law_next" "_law_next" (defArgs s_l_next) (defBody s_l_next) (defScope s_l_next) .none kV10 dc10 pm10 an10 cd10 ct10), sl10⟩) (c10 : PySem.W.codeIn K cd10 "_law_next" = true) (k10 : PySem.W.keepIn K (.ref f10) = true)
    {f11 : Addr} {od11 an11 : Option Addr} {sl11 : Array (Option Value)} {oc11 kV11 dc11 pm11 cd11 ct11 : Value}
    (a11 : PySem.W.nsIn K mainGlobals "_law_take" = some (some (.ref f11))) (l11 : K.lookup f11 = some ⟨oc11, od11, .func (PySem.W.fnOf "_law_take" "_law_take" (defArgs s_l_take) (defBody s_l_take) (defScope s_l_take) .none kV11 dc11 pm11 an11 cd11 ct11), sl11⟩) (c11 : PySem.W.codeIn K cd11 "_law_take" = true) (k11 : PySem.W.keepIn K (.ref f11) = true)
    {f12 : Addr} {od12 an12 : Option Addr} {sl12 : Array (Option Value)} {oc12 kV12 dc12 pm12 cd12 ct12 : Value}
    (a12 : PySem.W.nsIn K mainGlobals "_law_draw" = some (some (.ref f12))) (l12 : K.lookup f12 = some ⟨oc12, od12, .func (PySem.W.fnOf "_law_draw" "_law_draw" (defArgs s_l_draw) (defBody s_l_draw) (defScope s_l_draw) .none kV12 dc12 pm12 an12 cd12 ct12), sl12⟩) (c12 : PySem.W.codeIn K cd12 "_law_draw" = true) (k12 : PySem.W.keepIn K (.ref f12) = true)
    {f13 : Addr} {od13 an13 : Option Addr} {sl13 : Array (Option Value)} {oc13 kV13 dc13 pm13 cd13 ct13 : Value}
    (a13 : PySem.W.nsIn K mainGlobals "_law_divisor" = some (some (.ref f13))) (l13 : K.lookup f13 = some ⟨oc13, od13, .func (PySem.W.fnOf "_law_divisor" "_law_divisor" (defArgs s_l_divisor) (defBody s_l_divisor) (defScope s_l_divisor) .none kV13 dc13 pm13 an13 cd13 ct13), sl13⟩) (c13 : PySem.W.codeIn K cd13 "_law_divisor" = true) (k13 : PySem.W.keepIn K (.ref f13) = true)
    {f14 : Addr} {od14 an14 : Option Addr} {sl14 : Array (Option Value)} {oc14 kV14 dc14 pm14 cd14 ct14 : Value}
    (a14 : PySem.W.nsIn K mainGlobals "_law_point" = some (some (.ref f14))) (l14 : K.lookup f14 = some ⟨oc14, od14, .func (PySem.W.fnOf "_law_point" "_law_point" (defArgs s_l_point) (defBody s_l_point) (defScope s_l_point) .none kV14 dc14 pm14 an14 cd14 ct14), sl14⟩) (c14 : PySem.W.codeIn K cd14 "_law_point" = true) (k14 : PySem.W.keepIn K (.ref f14) = true)
    {f15 : Addr} {od15 an15 : Option Addr} {sl15 : Array (Option Value)} {oc15 kV15 dc15 pm15 cd15 ct15 : Value}
    (a15 : PySem.W.nsIn K mainGlobals "_law_ahead" = some (some (.ref f15))) (l15 : K.lookup f15 = some ⟨oc15, od15, .func (PySem.W.fnOf "_law_ahead" "_law_ahead" (defArgs s_l_ahead) (defBody s_l_ahead) (defScope s_l_ahead) .none kV15 dc15 pm15 an15 cd15 ct15), sl15⟩) (c15 : PySem.W.codeIn K cd15 "_law_ahead" = true) (k15 : PySem.W.keepIn K (.ref f15) = true)
    {f16 : Addr} {od16 an16 : Option Addr} {sl16 : Array (Option Value)} {oc16 kV16 dc16 pm16 cd16 ct16 : Value}
    (a16 : PySem.W.nsIn K mainGlobals "_law_turn" = some (some (.ref f16))) (l16 : K.lookup f16 = some ⟨oc16, od16, .func (PySem.W.fnOf "_law_turn" "_law_turn" (defArgs s_l_turn) (defBody s_l_turn) (defScope s_l_turn) .none kV16 dc16 pm16 an16 cd16 ct16), sl16⟩) (c16 : PySem.W.codeIn K cd16 "_law_turn" = true) (k16 : PySem.W.keepIn K (.ref f16) = true)
    {f17 : Addr} {od17 an17 : Option Addr} {sl17 : Array (Option Value)} {oc17 kV17 dc17 pm17 cd17 ct17 : Value}
    (a17 : PySem.W.nsIn K mainGlobals "_law_fraction" = some (some (.ref f17))) (l17 : K.lookup f17 = some ⟨oc17, od17, .func (PySem.W.fnOf "_law_fraction" "_law_fraction" (defArgs s_l_fraction) (defBody s_l_fraction) (defScope s_l_fraction) .none kV17 dc17 pm17 an17 cd17 ct17), sl17⟩) (c17 : PySem.W.codeIn K cd17 "_law_fraction" = true) (k17 : PySem.W.keepIn K (.ref f17) = true)
    {f18 : Addr} {od18 an18 : Option Addr} {sl18 : Array (Option Value)} {oc18 kV18 dc18 pm18 cd18 ct18 : Value}
    (a18 : PySem.W.nsIn K mainGlobals "_law_whole" = some (some (.ref f18))) (l18 : K.lookup f18 = some ⟨oc18, od18, .func (PySem.W.fnOf "_law_whole" "_law_whole" (defArgs s_l_whole) (defBody s_l_whole) (defScope s_l_whole) .none kV18 dc18 pm18 an18 cd18 ct18), sl18⟩) (c18 : PySem.W.codeIn K cd18 "_law_whole" = true) (k18 : PySem.W.keepIn K (.ref f18) = true)
    {f19 : Addr} {od19 an19 : Option Addr} {sl19 : Array (Option Value)} {oc19 kV19 dc19 pm19 cd19 ct19 : Value}
    (a19 : PySem.W.nsIn K mainGlobals "_law_wholes" = some (some (.ref f19))) (l19 : K.lookup f19 = some ⟨oc19, od19, .func (PySem.W.fnOf "_law_wholes" "_law_wholes" (defArgs s_l_wholes) (defBody s_l_wholes) (defScope s_l_wholes) .none kV19 dc19 pm19 an19 cd19 ct19), sl19⟩) (c19 : PySem.W.codeIn K cd19 "_law_wholes" = true) (k19 : PySem.W.keepIn K (.ref f19) = true)
    {f20 : Addr} {od20 an20 : Option Addr} {sl20 : Array (Option Value)} {oc20 kV20 dc20 pm20 cd20 ct20 : Value}
    (a20 : PySem.W.nsIn K mainGlobals "_law_on" = some (some (.ref f20))) (l20 : K.lookup f20 = some ⟨oc20, od20, .func (PySem.W.fnOf "_law_on" "_law_on" (defArgs s_l_on) (defBody s_l_on) (defScope s_l_on) .none kV20 dc20 pm20 an20 cd20 ct20), sl20⟩) (c20 : PySem.W.codeIn K cd20 "_law_on" = true) (k20 : PySem.W.keepIn K (.ref f20) = true)
    {f21 : Addr} {od21 an21 : Option Addr} {sl21 : Array (Option Value)} {oc21 kV21 dc21 pm21 cd21 ct21 : Value}
    (a21 : PySem.W.nsIn K mainGlobals "_law_touch" = some (some (.ref f21))) (l21 : K.lookup f21 = some ⟨oc21, od21, .func (PySem.W.fnOf "_law_touch" "_law_touch" (defArgs s_l_touch) (defBody s_l_touch) (defScope s_l_touch) .none kV21 dc21 pm21 an21 cd21 ct21), sl21⟩) (c21 : PySem.W.codeIn K cd21 "_law_touch" = true) (k21 : PySem.W.keepIn K (.ref f21) = true)
    {f22 : Addr} {od22 an22 : Option Addr} {sl22 : Array (Option Value)} {oc22 kV22 dc22 pm22 cd22 ct22 : Value}
    (a22 : PySem.W.nsIn K mainGlobals "_law_inside" = some (some (.ref f22))) (l22 : K.lookup f22 = some ⟨oc22, od22, .func (PySem.W.fnOf "_law_inside" "_law_inside" (defArgs s_l_inside) (defBody s_l_inside) (defScope s_l_inside) .none kV22 dc22 pm22 an22 cd22 ct22), sl22⟩) (c22 : PySem.W.codeIn K cd22 "_law_inside" = true) (k22 : PySem.W.keepIn K (.ref f22) = true)
    {f23 : Addr} {od23 an23 : Option Addr} {sl23 : Array (Option Value)} {oc23 kV23 dc23 pm23 cd23 ct23 : Value}
    (a23 : PySem.W.nsIn K mainGlobals "_law_corner" = some (some (.ref f23))) (l23 : K.lookup f23 = some ⟨oc23, od23, .func (PySem.W.fnOf "_law_corner" "_law_corner" (defArgs s_l_corner) (defBody s_l_corner) (defScope s_l_corner) .none kV23 dc23 pm23 an23 cd23 ct23), sl23⟩) (c23 : PySem.W.codeIn K cd23 "_law_corner" = true) (k23 : PySem.W.keepIn K (.ref f23) = true)
    {f24 : Addr} {od24 an24 : Option Addr} {sl24 : Array (Option Value)} {oc24 kV24 dc24 pm24 cd24 ct24 : Value}
    (a24 : PySem.W.nsIn K mainGlobals "_law_border_met" = some (some (.ref f24))) (l24 : K.lookup f24 = some ⟨oc24, od24, .func (PySem.W.fnOf "_law_border_met" "_law_border_met" (defArgs s_l_border_met) (defBody s_l_border_met) (defScope s_l_border_met) .none kV24 dc24 pm24 an24 cd24 ct24), sl24⟩) (c24 : PySem.W.codeIn K cd24 "_law_border_met" = true) (k24 : PySem.W.keepIn K (.ref f24) = true)
    {f25 : Addr} {od25 an25 : Option Addr} {sl25 : Array (Option Value)} {oc25 kV25 dc25 pm25 cd25 ct25 : Value}
    (a25 : PySem.W.nsIn K mainGlobals "_law_through" = some (some (.ref f25))) (l25 : K.lookup f25 = some ⟨oc25, od25, .func (PySem.W.fnOf "_law_through" "_law_through" (defArgs s_l_through) (defBody s_l_through) (defScope s_l_through) .none kV25 dc25 pm25 an25 cd25 ct25), sl25⟩) (c25 : PySem.W.codeIn K cd25 "_law_through" = true) (k25 : PySem.W.keepIn K (.ref f25) = true)
    {f26 : Addr} {od26 an26 : Option Addr} {sl26 : Array (Option Value)} {oc26 kV26 dc26 pm26 cd26 ct26 : Value}
    (a26 : PySem.W.nsIn K mainGlobals "_law_meets" = some (some (.ref f26))) (l26 : K.lookup f26 = some ⟨oc26, od26, .func (PySem.W.fnOf "_law_meets" "_law_meets" (defArgs s_l_meets) (defBody s_l_meets) (defScope s_l_meets) .none kV26 dc26 pm26 an26 cd26 ct26), sl26⟩) (c26 : PySem.W.codeIn K cd26 "_law_meets" = true) (k26 : PySem.W.keepIn K (.ref f26) = true)
    {f27 : Addr} {od27 an27 : Option Addr} {sl27 : Array (Option Value)} {oc27 kV27 dc27 pm27 cd27 ct27 : Value}
    (a27 : PySem.W.nsIn K mainGlobals "_law_in_row" = some (some (.ref f27))) (l27 : K.lookup f27 = some ⟨oc27, od27, .func (PySem.W.fnOf "_law_in_row" "_law_in_row" (defArgs s_l_in_row) (defBody s_l_in_row) (defScope s_l_in_row) .none kV27 dc27 pm27 an27 cd27 ct27), sl27⟩) (c27 : PySem.W.codeIn K cd27 "_law_in_row" = true) (k27 : PySem.W.keepIn K (.ref f27) = true)
    {f28 : Addr} {od28 an28 : Option Addr} {sl28 : Array (Option Value)} {oc28 kV28 dc28 pm28 cd28 ct28 : Value}
    (a28 : PySem.W.nsIn K mainGlobals "_law_cells" = some (some (.ref f28))) (l28 : K.lookup f28 = some ⟨oc28, od28, .func (PySem.W.fnOf "_law_cells" "_law_cells" (defArgs s_l_cells) (defBody s_l_cells) (defScope s_l_cells) .none kV28 dc28 pm28 an28 cd28 ct28), sl28⟩) (c28 : PySem.W.codeIn K cd28 "_law_cells" = true) (k28 : PySem.W.keepIn K (.ref f28) = true)
    {f29 : Addr} {od29 an29 : Option Addr} {sl29 : Array (Option Value)} {oc29 kV29 dc29 pm29 cd29 ct29 : Value}
    (a29 : PySem.W.nsIn K mainGlobals "law" = some (some (.ref f29))) (l29 : K.lookup f29 = some ⟨oc29, od29, .func (PySem.W.fnOf "law" "law" (defArgs s_law) (defBody s_law) (defScope s_law) .none kV29 dc29 pm29 an29 cd29 ct29), sl29⟩) (c29 : PySem.W.codeIn K cd29 "law" = true) (k29 : PySem.W.keepIn K (.ref f29) = true)
    (z0 : PySem.W.nsIn K mainGlobals "abs" = some none)
    (z1 : PySem.W.nsIn K mainGlobals "bool" = some none)
    (z2 : PySem.W.nsIn K mainGlobals "int" = some none)
    (z3 : PySem.W.nsIn K mainGlobals "isinstance" = some none)
    (z4 : PySem.W.nsIn K mainGlobals "len" = some none)
    (z5 : PySem.W.nsIn K mainGlobals "list" = some none)
    (z6 : PySem.W.nsIn K mainGlobals "max" = some none)
    (z7 : PySem.W.nsIn K mainGlobals "min" = some none)
    (z8 : PySem.W.nsIn K mainGlobals "range" = some none)
    (z9 : PySem.W.nsIn K mainGlobals "sorted" = some none)
    (z10 : PySem.W.nsIn K mainGlobals "tuple" = some none)
    (pg0 : PySem.W.plainGet K g0 Str.empty = true) (hd0 : PySem.W.hasDictIn K g0 = true) (po0 : PySem.W.plainOver K g0 = true) (sa0 : PySem.W.findIn K (.ref g0) "__setattr__" = some (some (.builtin "object.__setattr__"))) (mk0 : PySem.W.makesIn K g0 = true) (kc0 : PySem.W.keepIn K (.ref g0) = true)
    (n0_begin : PySem.W.findIn K (.ref g0) "begin" = some none)
    (n0_far : PySem.W.findIn K (.ref g0) "far" = some none)
    (n0_half : PySem.W.findIn K (.ref g0) "half" = some none)
    (n0_length : PySem.W.findIn K (.ref g0) "length" = some none)
    {p8 q8 : Addr} (r8 : cd8 = .ref q8) (wh8 : PySem.W.codeHdIn K q8 p8 = true) (wn8 : K.lookup p8 = none)
    : (∀ p ∈ [p8], K.lookup p = none ∧ ∃ c, PySem.W.codeHdIn K c p = true) ∧ ∃ fd : FuncData, (∀ (s : Shared) (v : Value), BindsTo s fd ⟨[v], []⟩ [("_law_script", v)]) ∧ ∀ base : Heap, K.In base → base.Ns mainGlobals mg → BM base mg → FnOk l.prog w K mg base CX0 6 fa fd ["_law_script"] (sp_law K p8) := by
  have e := hfa.symm.trans (PySem.W.mg_of X G a29)
  cases e
  have F0 := fun_mk (st := s_check_size) l0 c0 k0
  have b0 := F0.binds (ps := ["size"]) fun _ _ _ _ _ _ us hl => match us, hl with | [_], _ => rfl
  have F1 := fun_mk (st := s_nearest_to) l1 c1 k1
  have b1 := F1.binds (ps := ["top", "bottom"]) fun _ _ _ _ _ _ us hl => match us, hl with | [_, _], _ => rfl
  have F2 := fun_mk (st := s_cell_of) l2 c2 k2
  have b2 := F2.binds (ps := ["p", "size"]) fun _ _ _ _ _ _ us hl => match us, hl with | [_, _], _ => rfl
  have F3 := fun_mk (st := s_Track_init) l3 c3 k3
  have b3 := F3.binds (ps := ["self", "p", "q", "size"]) fun _ _ _ _ _ _ us hl => match us, hl with | [_, _, _, _], _ => rfl
  have F4 := fun_mk (st := s_span_on) l4 c4 k4
  have b4 := F4.binds (ps := ["track", "axis", "k"]) fun _ _ _ _ _ _ us hl => match us, hl with | [_, _, _], _ => rfl
  have F5 := fun_mk (st := s_first_met) l5 c5 k5
  have b5 := F5.binds (ps := ["track", "cell"]) fun _ _ _ _ _ _ us hl => match us, hl with | [_, _], _ => rfl
  have F6 := fun_mk (st := s_meets_cell) l6 c6 k6
  have b6 := F6.binds (ps := ["p", "q", "cell", "size"]) fun _ _ _ _ _ _ us hl => match us, hl with | [_, _, _, _], _ => rfl
  have F7 := fun_mk (st := s_cells_about) l7 c7 k7
  have b7 := F7.binds (ps := ["p", "q", "cells", "size"]) fun _ _ _ _ _ _ us hl => match us, hl with | [_, _, _, _], _ => rfl
  have F8 := fun_mk (st := s_thread_of) l8 c8 k8
  have b8 := F8.binds (ps := ["p", "q", "cells", "size"]) fun _ _ _ _ _ _ us hl => match us, hl with | [_, _, _, _], _ => rfl
  have F9 := fun_mk (st := s_l_hand) l9 c9 k9
  have b9 := F9.binds (ps := ["_law_script"]) fun _ _ _ _ _ _ us hl => match us, hl with | [_], _ => rfl
  have F10 := fun_mk (st := s_l_next) l10 c10 k10
  have b10 := F10.binds (ps := ["_law_hand_here"]) fun _ _ _ _ _ _ us hl => match us, hl with | [_], _ => rfl
  have F11 := fun_mk (st := s_l_take) l11 c11 k11
  have b11 := F11.binds (ps := ["_law_hand_here"]) fun _ _ _ _ _ _ us hl => match us, hl with | [_], _ => rfl
  have F12 := fun_mk (st := s_l_draw) l12 c12 k12
  have b12 := F12.binds (ps := ["_law_hand_here", "_law_many"]) fun _ _ _ _ _ _ us hl => match us, hl with | [_, _], _ => rfl
  have F13 := fun_mk (st := s_l_divisor) l13 c13 k13
  have b13 := F13.binds (ps := ["_law_one", "_law_other"]) fun _ _ _ _ _ _ us hl => match us, hl with | [_, _], _ => rfl
  have F14 := fun_mk (st := s_l_point) l14 c14 k14
  have b14 := F14.binds (ps := ["_law_a", "_law_b", "_law_c"]) fun _ _ _ _ _ _ us hl => match us, hl with | [_, _, _], _ => rfl
  have F15 := fun_mk (st := s_l_ahead) l15 c15 k15
  have b15 := F15.binds (ps := ["_law_p", "_law_q"]) fun _ _ _ _ _ _ us hl => match us, hl with | [_, _], _ => rfl
  have F16 := fun_mk (st := s_l_turn) l16 c16 k16
  have b16 := F16.binds (ps := ["_law_p", "_law_q", "_law_r"]) fun _ _ _ _ _ _ us hl => match us, hl with | [_, _, _], _ => rfl
  have F17 := fun_mk (st := s_l_fraction) l17 c17 k17
  have b17 := F17.binds (ps := ["_law_top", "_law_bottom"]) fun _ _ _ _ _ _ us hl => match us, hl with | [_, _], _ => rfl
  have F18 := fun_mk (st := s_l_whole) l18 c18 k18
  have b18 := F18.binds (ps := ["_law_thing"]) fun _ _ _ _ _ _ us hl => match us, hl with | [_], _ => rfl
  have F19 := fun_mk (st := s_l_wholes) l19 c19 k19
  have b19 := F19.binds (ps := ["_law_thing", "_law_many"]) fun _ _ _ _ _ _ us hl => match us, hl with | [_, _], _ => rfl
  have F20 := fun_mk (st := s_l_on) l20 c20 k20
  have b20 := F20.binds (ps := ["_law_p", "_law_a", "_law_b"]) fun _ _ _ _ _ _ us hl => match us, hl with | [_, _, _], _ => rfl
  have F21 := fun_mk (st := s_l_touch) l21 c21 k21
  have b21 := F21.binds (ps := ["_law_a", "_law_b", "_law_c", "_law_d"]) fun _ _ _ _ _ _ us hl => match us, hl with | [_, _, _, _], _ => rfl
  have F22 := fun_mk (st := s_l_inside) l22 c22 k22
  have b22 := F22.binds (ps := ["_law_p", "_law_cell", "_law_size"]) fun _ _ _ _ _ _ us hl => match us, hl with | [_, _, _], _ => rfl
  have F23 := fun_mk (st := s_l_corner) l23 c23 k23
  have b23 := F23.binds (ps := ["_law_cell", "_law_size", "_law_right", "_law_up"]) fun _ _ _ _ _ _ us hl => match us, hl with | [_, _, _, _], _ => rfl
  have F24 := fun_mk (st := s_l_border_met) l24 c24 k24
  have b24 := F24.binds (ps := ["_law_p", "_law_q", "_law_low", "_law_high"]) fun _ _ _ _ _ _ us hl => match us, hl with | [_, _, _, _], _ => rfl
  have F25 := fun_mk (st := s_l_through) l25 c25 k25
  have b25 := F25.binds (ps := ["_law_p", "_law_q", "_law_cell", "_law_size"]) fun _ _ _ _ _ _ us hl => match us, hl with | [_, _, _, _], _ => rfl
  have F26 := fun_mk (st := s_l_meets) l26 c26 k26
  have b26 := F26.binds (ps := ["_law_p", "_law_q", "_law_cell", "_law_size"]) fun _ _ _ _ _ _ us hl => match us, hl with | [_, _, _, _], _ => rfl
  have F27 := fun_mk (st := s_l_in_row) l27 c27 k27
  have b27 := F27.binds (ps := ["_law_cells_here", "_law_p", "_law_q"]) fun _ _ _ _ _ _ us hl => match us, hl with | [_, _, _], _ => rfl
  have F28 := fun_mk (st := s_l_cells) l28 c28 k28
  have b28 := F28.binds (ps := ["_law_thing"]) fun _ _ _ _ _ _ us hl => match us, hl with | [_], _ => rfl
  have F29 := fun_mk (st := s_law) l29 c29 k29
  have b29 := F29.binds (ps := ["_law_script"]) fun _ _ _ _ _ _ us hl => match us, hl with | [_], _ => rfl
  have T : Txt K mg { f_check_size := f0, d_check_size := _, f_nearest_to := f1, d_nearest_to := _, f_cell_of := f2, d_cell_of := _, f_Track_init := f3, d_Track_init := _, f_span_on := f4, d_span_on := _, f_first_met := f5, d_first_met := _, f_meets_cell := f6, d_meets_cell := _, f_cells_about := f7, d_cells_about := _, f_thread_of := f8, d_thread_of := _, f_l_hand := f9, d_l_hand := _, f_l_next := f10, d_l_next := _, f_l_take := f11, d_l_take := _, f_l_draw := f12, d_l_draw := _, f_l_divisor := f13, d_l_divisor := _, f_l_point := f14, d_l_point := _, f_l_ahead := f15, d_l_ahead := _, f_l_turn := f16, d_l_turn := _, f_l_fraction := f17, d_l_fraction := _, f_l_whole := f18, d_l_whole := _, f_l_wholes := f19, d_l_wholes := _, f_l_on := f20, d_l_on := _, f_l_touch := f21, d_l_touch := _, f_l_inside := f22, d_l_inside := _, f_l_corner := f23, d_l_corner := _, f_l_border_met := f24, d_l_border_met := _, f_l_through := f25, d_l_through := _, f_l_meets := f26, d_l_meets := _, f_l_in_row := f27, d_l_in_row := _, f_l_cells := f28, d_l_cells := _, f_law := fa, d_law := _, c_Track := g0, p_thread_of := p8, q_thread_of := q8 } := { check_size := ⟨F0, b0, PySem.W.mg_of X G a0⟩, nearest_to := ⟨F1, b1, PySem.W.mg_of X G a1⟩, cell_of := ⟨F2, b2, PySem.W.mg_of X G a2⟩, Track_init := ⟨F3, b3⟩, mk_Track := ⟨mk0, a3, i3, kc0⟩, cl_Track := ⟨pg0, hd0, po0, sa0⟩, span_on := ⟨F4, b4, PySem.W.mg_of X G a4⟩, first_met := ⟨F5, b5, PySem.W.mg_of X G a5⟩, meets_cell := ⟨F6, b6, PySem.W.mg_of X G a6⟩, cells_about := ⟨F7, b7, PySem.W.mg_of X G a7⟩, thread_of := ⟨F8, b8, PySem.W.mg_of X G a8⟩, l_hand := ⟨F9, b9, PySem.W.mg_of X G a9⟩, l_next := ⟨F10, b10, PySem.W.mg_of X G a10⟩, l_take := ⟨F11, b11, PySem.W.mg_of X G a11⟩, l_draw := ⟨F12, b12, PySem.W.mg_of X G a12⟩, l_divisor := ⟨F13, b13, PySem.W.mg_of X G a13⟩, l_point := ⟨F14, b14, PySem.W.mg_of X G a14⟩, l_ahead := ⟨F15, b15, PySem.W.mg_of X G a15⟩, l_turn := ⟨F16, b16, PySem.W.mg_of X G a16⟩, l_fraction := ⟨F17, b17, PySem.W.mg_of X G a17⟩, l_whole := ⟨F18, b18, PySem.W.mg_of X G a18⟩, l_wholes := ⟨F19, b19, PySem.W.mg_of X G a19⟩, l_on := ⟨F20, b20, PySem.W.mg_of X G a20⟩, l_touch := ⟨F21, b21, PySem.W.mg_of X G a21⟩, l_inside := ⟨F22, b22, PySem.W.mg_of X G a22⟩, l_corner := ⟨F23, b23, PySem.W.mg_of X G a23⟩, l_border_met := ⟨F24, b24, PySem.W.mg_of X G a24⟩, l_through := ⟨F25, b25, PySem.W.mg_of X G a25⟩, l_meets := ⟨F26, b26, PySem.W.mg_of X G a26⟩, l_in_row := ⟨F27, b27, PySem.W.mg_of X G a27⟩, l_cells := ⟨F28, b28, PySem.W.mg_of X G a28⟩, law := ⟨F29, b29, PySem.W.mg_of X G a29⟩, n_Track_begin := n0_begin, n_Track_far := n0_far, n_Track_half := n0_half, n_Track_length := n0_length, b_abs := PySem.W.mg_none_of X G z0, b_bool := PySem.W.mg_none_of X G z1, b_int := PySem.W.mg_none_of X G z2, b_isinstance := PySem.W.mg_none_of X G z3, b_len := PySem.W.mg_none_of X G z4, b_list := PySem.W.mg_none_of X G z5, b_max := PySem.W.mg_none_of X G z6, b_min := PySem.W.mg_none_of X G z7, b_range := PySem.W.mg_none_of X G z8, b_sorted := PySem.W.mg_none_of X G z9, b_tuple := PySem.W.mg_none_of X G z10, m_Track := PySem.W.mg_of X G u0, lc_thread_of := r8, lh_thread_of := wh8 }
  exact ⟨List.forall_mem_cons.mpr ⟨⟨wn8, _, wh8⟩, fun _ h => (nomatch h)⟩, PySem.W.fnOf "law" "law" (defArgs s_law) (defBody s_law) (defScope s_law) .none kV29 dc29 pm29 an29 cd29 ct29, fun s v => .of_eq rfl, fun base _ _ hB => ok_law hB T⟩
theorem walk {l : PySem.W.OpenLaw} {q : Program} {loose : List Str} {XP : (Str → Option Value) → Heap → Prop} {YP : World → Heap → Prop} {d : DefRec} {K : Params → PySem.W.Frag} {x0 : Addr} (hn : l.most = some 63) (hdf : d.params.defaults = [])
    (hY : ∀ (w : World) (h : Heap), YP w h → (K w.params).In h) (hT : ∀ (w : World) (h : Heap), YP w h → ∀ p ∈ [x0], h.get? p = some (PySem.W.tabObj #[]))
    (F : ∀ (w : World) (mg : Str → Option Value) (fa : Addr) (h : Heap), (K w.params).In h → h.Ns mainGlobals mg → mg d.name = some (.ref fa) →
      (∀ p ∈ [x0], (K w.params).lookup p = none ∧ ∃ c, PySem.W.codeHdIn (K w.params) c p = true) ∧ ∃ fd : FuncData, (∀ (s : Shared) (u : Value), BindsTo s fd ⟨[u], []⟩ [("_law_script", u)]) ∧ ∀ base : Heap, (K w.params).In base → base.Ns mainGlobals mg → BM base mg → FnOk l.prog w (K w.params) mg base CX0 6 fa fd ["_law_script"] (sp_law (K w.params) x0)) :
    PySem.W.WalkO q loose XP YP l.row.toRowW d [] (fun f vs => PySem.call f vs) :=
  L2.walk_ofT (n := 63) (k := 6) (x := "_law_script") (sp := fun w => sp_law (K w.params) x0) (ts := [x0]) hn (by decide) hdf ⟨rfl, by decide, by decide⟩ hY hT F (fun _ _ a ns hl hS hT => sp_start hl hS hT)
end My
def PySem.W.Fast.tw13755489125518878061 : Nat := 0
def PySem.W.Fast.tw13587069624061780280 : Nat := 0
def PySem.W.Fast.tw7996693598496007912 : Nat := 0
def PySem.W.Fast.tw5894123313503250194 : Nat := 0
def PySem.W.Fast.tw4570617167047138209 : Nat := 0
def PySem.W.Fast.tw13923233544822506034 : Nat := 0
def PySem.W.Fast.tw10053825661064025947 : Nat := 0
def PySem.W.Fast.tw2657799622467006132 : Nat := 0
def PySem.W.Fast.tw11359634622278483904 : Nat := 0
def PySem.W.Fast.tw16768909256068079139 : Nat := 0
def PySem.W.Fast.tw900402627422150653 : Nat := 0
def PySem.W.Fast.tw1429752143686864829 : Nat := 0
open PySem PySem.W PyProof.Rows
set_option maxRecDepth 100000 in
set_option maxHeartbeats 0 in
theorem PySem.Challenge.cw_plymap_k83_a_thread_holds : PySem.Challenge.rw_plymap_k83_a_thread.Holds := by
  w_on; o_law; k_head; (case hw => w_witness2)
  k_fill
  refine My.walk (l := PySem.Challenge.rw_plymap_k83_a_thread) rfl rfl (fun w h Y => PySem.W.km_in_of Y) (fun w h Y => PySem.W.km_tabs_of Y) ?F
  case F =>
    intro w mg fa h KX G hmg
    refine' My.all_mk KX G hmg ?u0 ?a0 ?l0 ?c0 ?k0 ?a1 ?l1 ?c1 ?k1 ?a2 ?l2 ?c2 ?k2 ?a3 ?i3 ?l3 ?c3 ?k3 ?a4 ?l4 ?c4 ?k4 ?a5 ?l5 ?c5 ?k5 ?a6 ?l6 ?c6 ?k6 ?a7 ?l7 ?c7 ?k7 ?a8 ?l8 ?c8 ?k8 ?a9 ?l9 ?c9 ?k9 ?a10 ?l10 ?c10 ?k10 ?a11 ?l11 ?c11 ?k11 ?a12 ?l12 ?c12 ?k12 ?a13 ?l13 ?c13 ?k13 ?a14 ?l14 ?c14 ?k14 ?a15 ?l15 ?c15 ?k15 ?a16 ?l16 ?c16 ?k16 ?a17 ?l17 ?c17 ?k17 ?a18 ?l18 ?c18 ?k18 ?a19 ?l19 ?c19 ?k19 ?a20 ?l20 ?c20 ?k20 ?a21 ?l21 ?c21 ?k21 ?a22 ?l22 ?c22 ?k22 ?a23 ?l23 ?c23 ?k23 ?a24 ?l24 ?c24 ?k24 ?a25 ?l25 ?c25 ?k25 ?a26 ?l26 ?c26 ?k26 ?a27 ?l27 ?c27 ?k27 ?a28 ?l28 ?c28 ?k28 ?a29 ?l29 ?c29 ?k29 ?z0 ?z1 ?z2 ?z3 ?z4 ?z5 ?z6 ?z7 ?z8 ?z9 ?z10 ?pg0 ?hd0 ?po0 ?sa0 ?mk0 ?kc0 ?n0_begin ?n0_far ?n0_half ?n0_length ?r8 ?wh8 ?wn8
    (case u0 => k_is)
    (case a0 => k_is)
    (case l0 => k_is)
    (case c0 => k_is)
    (case k0 => k_is)
    (case a1 => k_is)
    (case l1 => k_is)
    (case c1 => k_is)
    (case k1 => k_is)
    (case a2 => k_is)
    (case l2 => k_is)
    (case c2 => k_is)
    (case k2 => k_is)
    (case a3 => k_is)
    (case i3 => k_is)
    (case l3 => k_is)
    (case c3 => k_is)
    (case k3 => k_is)
    (case a4 => k_is)
    (case l4 => k_is)
    (case c4 => k_is)
    (case k4 => k_is)
    (case a5 => k_is)
    (case l5 => k_is)
    (case c5 => k_is)
    (case k5 => k_is)
    (case a6 => k_is)
    (case l6 => k_is)
    (case c6 => k_is)
    (case k6 => k_is)
    (case a7 => k_is)
    (case l7 => k_is)
    (case c7 => k_is)
    (case k7 => k_is)
    (case a8 => k_is)
    (case l8 => k_is)
    (case c8 => k_is)
    (case k8 => k_is)
    (case a9 => k_is)
    (case l9 => k_is)
    (case c9 => k_is)
    (case k9 => k_is)
    (case a10 => k_is)
    (case l10 => k_is)
    (case c10 => k_is)
    (case k10 => k_is)
    (case a11 => k_is)
    (case l11 => k_is)
    (case c11 => k_is)
    (case k11 => k_is)
    (case a12 => k_is)
    (case l12 => k_is)
    (case c12 => k_is)
    (case k12 => k_is)
    (case a13 => k_is)
    (case l13 => k_is)
    (case c13 => k_is)
    (case k13 => k_is)
    (case a14 => k_is)
    (case l14 => k_is)
    (case c14 => k_is)
    (case k14 => k_is)
    (case a15 => k_is)
    (case l15 => k_is)
    (case c15 => k_is)
    (case k15 => k_is)
    (case a16 => k_is)
    (case l16 => k_is)
    (case c16 => k_is)
    (case k16 => k_is)
    (case a17 => k_is)
    (case l17 => k_is)
    (case c17 => k_is)
    (case k17 => k_is)
    (case a18 => k_is)
    (case l18 => k_is)
    (case c18 => k_is)
    (case k18 => k_is)
    (case a19 => k_is)
    (case l19 => k_is)
    (case c19 => k_is)
    (case k19 => k_is)
    (case a20 => k_is)
    (case l20 => k_is)
    (case c20 => k_is)
    (case k20 => k_is)
    (case a21 => k_is)
    (case l21 => k_is)
    (case c21 => k_is)
    (case k21 => k_is)
    (case a22 => k_is)
    (case l22 => k_is)
    (case c22 => k_is)
    (case k22 => k_is)
    (case a23 => k_is)
    (case l23 => k_is)
    (case c23 => k_is)
    (case k23 => k_is)
    (case a24 => k_is)
    (case l24 => k_is)
    (case c24 => k_is)
    (case k24 => k_is)
    (case a25 => k_is)
    (case l25 => k_is)
    (case c25 => k_is)
    (case k25 => k_is)
    (case a26 => k_is)
    (case l26 => k_is)
    (case c26 => k_is)
    (case k26 => k_is)
    (case a27 => k_is)
    (case l27 => k_is)
    (case c27 => k_is)
    (case k27 => k_is)
    (case a28 => k_is)
    (case l28 => k_is)
    (case c28 => k_is)
    (case k28 => k_is)
    (case a29 => k_is)
    (case l29 => k_is)
    (case c29 => k_is)
    (case k29 => k_is)
    (case z0 => k_is)
    (case z1 => k_is)
    (case z2 => k_is)
    (case z3 => k_is)
    (case z4 => k_is)
    (case z5 => k_is)
    (case z6 => k_is)
    (case z7 => k_is)
    (case z8 => k_is)
    (case z9 => k_is)
    (case z10 => k_is)
    (case pg0 => k_is)
    (case hd0 => k_is)
    (case po0 => k_is)
    (case sa0 => k_is)
    (case mk0 => k_is)
    (case kc0 => k_is)
    (case n0_begin => k_is)
    (case n0_far => k_is)
    (case n0_half => k_is)
    (case n0_length => k_is)
    (case r8 => rfl)
    (case wh8 => kernel_rfl)
    (case wn8 => kernel_rfl)
