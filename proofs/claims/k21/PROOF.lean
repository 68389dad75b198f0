import PyProof.Rows.All
import Wide.All
import OpenK.AllK
import Wide.FinOn
import Lean
import PyProof.EqAt
import PyProof.EqKinds
import PyProof.TupleCall
import PyProof.ZipIter
import PyProof.TupleIter
import PyProof.AttrMiss
import PyProof.TupleKey
import PyProof.DictFindH
import KE.KDictOf
import PyProof.DictIter
import PyProof.DictWalks
import PyProof.ListRange
import KE.KDictList
import PyProof.CompUse
import KE.KTryMore
import PyProof.WalkInts
import KE.KIntText
import PyProof.StrLawsTight
import PyProof.Rows.StrIntSpec
import KE.KxMul
import KE.KEqDict
import PyProof.DictValues
import PyProof.StrLawsChain
import KE.KSortTup
import KE.KLam
import KE.KNestM
import PyProof.ExcInit
import PyProof.InstStoreFacts
import PyProof.EnumMake
import PyProof.EnumFor
import PySem.Challenge.RW_plymap_k21_layers_refused
set_option Elab.async false
set_option linter.all false
set_option maxRecDepth 100000
/-! THE HAND LAYER, for ints, bools, texts, own classes, LISTS and tuples (index, slices, in, append, pop ..), calls, loops. Paste it whole ahead of your own text; what your proof does not reach may be deleted. -/
namespace L2
open PySem PySem.Spec PyProof.Rows

/-- a key: an int or a str -/
abbrev Key := Sum Int Str
def keyIs : Key → Value → Bool
  | .inl k, v => Value.isInt k v
  | .inr x, v => Value.isStrOf x v
def keyH (w : World) : Key → Int
  | .inl k => hashInt k
  | .inr x => hashStr w x
theorem keyIs_shape : ∀ {k : Key} {v : Value}, keyIs k v = true → (∃ i t, k = Sum.inl i ∧ v = Value.int i t) ∨ (∃ x t, k = Sum.inr x ∧ v = Value.str x t)
  | .inl i, v, h => by
    obtain ⟨t, e⟩ := Value.isInt_shape (k := i) (v := v) h
    exact .inl ⟨i, t, rfl, e⟩
  | .inr x, v, h => by
    obtain ⟨t, e⟩ := Value.isStrOf_shape (x := x) (v := v) h
    exact .inr ⟨x, t, rfl, e⟩
theorem keyIs_int (i : Int) (t : Tok) : keyIs (.inl i) (.int i t) = true := by simp [keyIs, Value.isInt]
theorem keyIs_str (x : Str) (t : Tok) : keyIs (.inr x) (.str x t) = true := by simp [keyIs, Value.isStrOf]
theorem key_ll (a b : Int) : decide ((Sum.inl a : Key) = Sum.inl b) = (a == b) := by
  by_cases e : a = b
  · subst e; simp
  · have h : ¬ (Sum.inl a : Key) = Sum.inl b := fun q => e (Sum.inl.inj q)
    rw [decide_eq_false h]
    exact (beq_eq_false_iff_ne.mpr e).symm
theorem key_rr (a b : Str) : decide ((Sum.inr a : Key) = Sum.inr b) = decide (a = b) := by
  by_cases e : a = b
  · subst e; simp
  · have h : ¬ (Sum.inr a : Key) = Sum.inr b := fun q => e (Sum.inr.inj q)
    rw [decide_eq_false h, decide_eq_false e]
theorem key_lr (a : Int) (b : Str) : decide ((Sum.inl a : Key) = Sum.inr b) = false := decide_eq_false (fun q => nomatch q)
theorem key_rl (a : Str) (b : Int) : decide ((Sum.inr a : Key) = Sum.inl b) = false := decide_eq_false (fun q => nomatch q)

def mixKind (prog : Program) (w : World) : PySem.KeyKind prog w Key where
  is := keyIs
  hash := keyH w
  inj := fun v a b ha hb => by
    rcases keyIs_shape ha with ⟨i, t, rfl, rfl⟩ | ⟨x, t, rfl, rfl⟩
    · rcases keyIs_shape hb with ⟨j, u, rfl, e⟩ | ⟨y, u, rfl, e⟩
      · injection e with e1 _; rw [e1]
      · exact nomatch e
    · rcases keyIs_shape hb with ⟨j, u, rfl, e⟩ | ⟨y, u, rfl, e⟩
      · exact nomatch e
      · injection e with e1 _; rw [e1]
  byValue := fun k v h => by
    rcases keyIs_shape h with ⟨i, t, rfl, rfl⟩ | ⟨x, t, rfl, rfl⟩ <;> rfl
  pyHash := fun hv h => by
    rcases keyIs_shape hv with ⟨i, t, rfl, rfl⟩ | ⟨x, t, rfl, rfl⟩
    · exact wpAny_pyHash_int h
    · exact wpAny_pyHash_str h
  eqBool := fun hu hv h => by
    rcases keyIs_shape hu with ⟨i, t, rfl, rfl⟩ | ⟨x, t, rfl, rfl⟩
    · rcases keyIs_shape hv with ⟨j, u, rfl, rfl⟩ | ⟨y, u, rfl, rfl⟩
      · rw [key_ll] at h; exact wpAny_eqBool_int h
      · rw [key_lr] at h; exact SeqAt.EqAt.int_str i t y u _ _ _ _ h
    · rcases keyIs_shape hv with ⟨j, u, rfl, rfl⟩ | ⟨y, u, rfl, rfl⟩
      · rw [key_rl] at h; exact SeqAt.EqAt.str_int x t j u _ _ _ _ h
      · rw [key_rr] at h; exact wpAny_eqBool_str h
  «strs» := fun k x t v h => by
    rcases keyIs_shape h with ⟨i, u, rfl, e⟩ | ⟨y, u, rfl, e⟩
    · exact nomatch e
    · injection e with e1 _
      subst e1
      cases v <;> rfl

theorem mixKind_int (prog : Program) (w : World) (i : Int) (t : Tok) : (mixKind prog w).is (.inl i) (.int i t) = true := keyIs_int i t
theorem mixKind_str (prog : Program) (w : World) (x : Str) (t : Tok) : (mixKind prog w).is (.inr x) (.str x t) = true := keyIs_str x t
end L2

namespace L2
open PySem PySem.Spec PyProof.Rows

/-- a value, without the heap -/
inductive V where
  | non | bl (b : Bool) | int (i : Int) | str (x : Str) | byt (b : Array UInt8) | flt (b : UInt64) | ref (a : Addr) | ty (n : String)
  deriving DecidableEq

def RelV : V → Value → Prop
  | .non, u => u = Value.none
  | .bl b, u => u = Value.bool b
  | .int i, u => ∃ t, u = Value.int i t
  | .str x, u => ∃ t, u = Value.str x t
  | .byt b, u => ∃ t, u = Value.bytes b t
  | .flt b, u => ∃ t, u = Value.float b t
  | .ref a, u => u = Value.ref a
  | .ty n, u => u = Value.type n

abbrev Vals : List V → List Value → Prop := Paired RelV
theorem Vals.length {xs : List V} {us : List Value} (r : Vals xs us) : xs.length = us.length := Paired.length r
theorem Vals.get : ∀ {xs : List V} {us : List Value} {i : Nat} {x : V}, Vals xs us → xs[i]? = some x → ∃ u, us[i]? = some u ∧ RelV x u
  | _, _, _, _, .nil, e => by simp at e
  | _, _, 0, _, .cons r _, e => by simp at e; subst e; exact ⟨_, rfl, r⟩
  | _, _, i + 1, x, .cons _ t, e => by
    obtain ⟨u, h1, h2⟩ := Vals.get (i := i) (x := x) t (by simpa using e)
    exact ⟨u, by simpa using h1, h2⟩
theorem Vals.set {x : V} {u : Value} (r : RelV x u) : ∀ {xs : List V} {us : List Value} (i : Nat), Vals xs us → Vals (xs.set i x) (us.set i u)
  | _, _, _, .nil => .nil
  | _, _, 0, .cons _ t => .cons r t
  | _, _, i + 1, .cons q t => .cons q (Vals.set r i t)
theorem Vals.append : ∀ {xs ys : List V} {us ws : List Value}, Vals xs us → Vals ys ws → Vals (xs ++ ys) (us ++ ws)
  | _, _, _, _, .nil, s => s
  | _, _, _, _, .cons r t, s => .cons r (Vals.append t s)
theorem Vals.take : ∀ {xs : List V} {us : List Value} (n : Nat), Vals xs us → Vals (xs.take n) (us.take n)
  | _, _, 0, _ => .nil
  | _, _, _ + 1, .nil => .nil
  | _, _, n + 1, .cons r t => .cons r (Vals.take n t)
theorem Vals.drop : ∀ {xs : List V} {us : List Value} (n : Nat), Vals xs us → Vals (xs.drop n) (us.drop n)
  | _, _, 0, r => r
  | _, _, _ + 1, .nil => .nil
  | _, _, n + 1, .cons _ t => Vals.drop n t

def RelO : Option V → Option Value → Prop
  | some v, some u => RelV v u
  | none, none => True
  | _, _ => False
def KV {κ : Type} : List (κ × V) → List (κ × Value) → Prop := Paired fun (p : κ × V) (q : κ × Value) => p.1 = q.1 ∧ RelV p.2 q.2

/-- a key of a dict (00_mix): an int or a text -/
def kV : Key → V
  | .inl i => .int i
  | .inr x => .str x

/-- what stands at a tracked address -/
inductive HO where
  /-- a list -/
  | lst (xs : List V)
  /-- a tuple (never changes) -/
  | tup (xs : List V)
  /-- a dict whose keys are ints and texts; one whose keys are tuples of ints and texts (the empty one is both) -/
  | dK (kvs : List (Key × V)) | dT (kvs : List (List Key × V))
  /-- a set of ints: its members, its size -/
  | set (S : Int → Bool) (n : Nat)
  /-- an instance of the class at C, its dict at dx, its attributes -/
  | ins (C dx : Addr) (fs : List (Str × V))
  /-- the dict of the instance at x -/
  | own (x : Addr)
  /-- the dict of an exception -/
  | xd (fs : List (Str × V))
  /-- a bound method, f of x -/
  | met (f x : Addr)
  /-- a range object lo, lo + 1, .. below hi -/
  | rng (lo hi : Int)
  /-- a thing that is known to the object (the script; a dict while a loop walks it): read, never written while it is so -/
  | frz (o : Obj) (u : HO)
  /-- a code object's table -/
  | tbl (ps : Array Value)
  /-- any other thing, by what is true of its one object (a def of one's own: SetO a S n := HO.ext fun h => ..) -/
  | ext (φ : Heap → Prop)

abbrev Hp := Addr → Option HO
def upd (H : Hp) (a : Addr) (o : HO) : Hp := fun b => if b = a then some o else H b
theorem upd_same {H : Hp} {a : Addr} {o : HO} : upd H a o a = some o := by unfold upd; rw [if_pos rfl]
theorem upd_ne {H : Hp} {a b : Addr} {o : HO} (h : b ≠ a) : upd H a o b = H b := by unfold upd; rw [if_neg h]
theorem upd_upd {H : Hp} {a : Addr} {o u : HO} : upd (upd H a o) a u = upd H a u := by
  funext b; unfold upd; split <;> rfl
/-- two objects of different content stand apart -/
theorem ne_of {H : Hp} {a b : Addr} {o u : HO} (h : H a = some o) (h' : H b = some u) (d : o ≠ u) : a ≠ b := by
  intro e; subst e; rw [h] at h'; exact d (Option.some.inj h')
theorem ne_of_none {H : Hp} {a b : Addr} {o : HO} (h : H a = some o) (h' : H b = none) : a ≠ b := by
  intro e; subst e; rw [h] at h'; cases h'

section
variable (P : Program) (w : World)
def ObjOk (H : Hp) (h : Heap) (a : Addr) : HO → Prop
  | .lst xs => xs.length ≤ sizeLine ∧ ∃ (its : List Value) (n : Nat), Vals xs its ∧ h.get? a = some { cls := .type "list", data := .seq its.toArray n }
  | .tup xs => xs.length ≤ sizeLine ∧ ∃ its : List Value, Vals xs its ∧ IsTup h a its.toArray
  | .dK kvs => kvs.length ≤ sizeLine ∧ (a == sysModules) = false ∧ ∃ vs, KV kvs vs ∧ h.DictOf (mixKind P w) a vs
  | .dT kvs => kvs.length ≤ sizeLine ∧ (a == sysModules) = false ∧ ∃ xs : List (List Key × Addr × Value),
      Paired (fun (p : List Key × V) (q : List Key × Addr × Value) => p.1 = q.1 ∧ H q.2.1 = some (.tup (p.1.map kV)) ∧ RelV p.2 q.2.2) kvs xs ∧
      ∃ o es ep, h.get? a = some o ∧ o.ExactDict ∧ o.data = .dict es ep ∧ es.toList = xs.map (entryOfKey (tupleKind (mixKind P w))) ∧ (xs.map (·.1)).Nodup
  | .set S n => h.SetOf (intKind P w) a S n
  | .ins C dx fs => H dx = some (.own a) ∧ fs.length ≤ 1000 ∧ dx ≠ a ∧ h.get? a = some (PySem.W.instObj C dx) ∧
      ∃ mA, h.Ns1 dx mA ∧ (∀ f, RelO (fs.lookup f) (mA f)) ∧ PySem.Within mA (fs.map (·.1))
  | .own _ => ∃ o, h.get? a = some o
  | .xd fs => ∃ mA, h.Ns1 a mA ∧ ∀ f, RelO (fs.lookup f) (mA f)
  | .rng lo hi => ∃ t u v, h.get? a = some { cls := .type "range", data := .fields #[.int lo t, .int hi u, .int 1 v] }
  | .frz o u => h.get? a = some o ∧ ObjOk H h a u
  | .tbl ps => h.get? a = some { cls := .none, data := .fields ps }
  | .met f x => h.get? a = some (PySem.W.methodObj (.ref f) (.ref x))
  | .ext φ => φ h ∧ (∃ o, h.get? a = some o) ∧ ∀ h1 h2 : Heap, φ h1 → (∀ o, h1.get? a = some o → h2.get? a = some o) → φ h2
/-- the abstract heap is held -/
def HOk (H : Hp) (h : Heap) : Prop := ∀ a o, H a = some o → ObjOk P w H h a o
end

section
variable {P : Program} {w : World} {H H' : Hp} {h h' : Heap} {a : Addr} {o : HO}
theorem ObjOk.lt (x : ObjOk P w H h a o) : a < h.objs.size := by
  cases o with
  | lst xs => obtain ⟨_, _, _, _, e⟩ := x; exact Heap.lt_size e
  | tup xs => obtain ⟨_, _, _, p⟩ := x; exact p.lt
  | dK kvs => obtain ⟨_, _, _, _, o, _, _, e, _⟩ := x; exact Heap.lt_size e
  | dT kvs => obtain ⟨_, _, _, _, o, _, _, e, _⟩ := x; exact Heap.lt_size e
  | set S n => obtain ⟨o, _, _, _, e, _⟩ := x; exact Heap.lt_size e
  | ins C dx fs => obtain ⟨_, _, _, e, _⟩ := x; exact Heap.lt_size e
  | own y => obtain ⟨_, e⟩ := x; exact Heap.lt_size e
  | xd fs => obtain ⟨_, ⟨_, _, _, e, _⟩, _⟩ := x; exact Heap.lt_size e
  | rng lo hi => obtain ⟨_, _, _, e⟩ := x; exact Heap.lt_size e
  | frz ob u => obtain ⟨e, _⟩ := x; exact Heap.lt_size e
  | tbl ps => exact Heap.lt_size (show h.get? a = some _ from x)
  | met f y => exact Heap.lt_size (show h.get? a = some _ from x)
  | ext φ => obtain ⟨_, ⟨_, e⟩, _⟩ := x; exact Heap.lt_size e
theorem Paired.mapP {α β : Type} {F G : α → β → Prop} : ∀ {l₁ : List α} {l₂ : List β}, Paired F l₁ l₂ → (∀ a b, F a b → G a b) → Paired G l₁ l₂
  | _, _, .nil, _ => .nil
  | _, _, .cons r t, f => .cons (f _ _ r) (Paired.mapP t f)
/-- what an object's description leans on: its own object, its own dict, the tuples -/
theorem ObjOk.stay (x : ObjOk P w H h a o) (k : ∀ b u, (b = a ∨ H b = some (.own a)) → h.get? b = some u → h'.get? b = some u)
    (ho : ∀ b, H b = some (.own a) → H' b = some (.own a)) (ht : ∀ b xs, H b = some (.tup xs) → H' b = some (.tup xs)) : ObjOk P w H' h' a o := by
  induction o with
  | lst xs => obtain ⟨z, its, n, r, e⟩ := x; exact ⟨z, its, n, r, k _ _ (.inl rfl) e⟩
  | tup xs => obtain ⟨z, its, r, ob, e, c⟩ := x; exact ⟨z, its, r, ob, k _ _ (.inl rfl) e, c⟩
  | dK kvs => obtain ⟨z, y, vs, r, ob, es, ep, e, c⟩ := x; exact ⟨z, y, vs, r, ob, es, ep, k _ _ (.inl rfl) e, c⟩
  | dT kvs =>
    obtain ⟨z, y, xs, r, ob, es, ep, e, c⟩ := x
    exact ⟨z, y, xs, Paired.mapP r fun p q z => ⟨z.1, ht _ _ z.2.1, z.2.2⟩, ob, es, ep, k _ _ (.inl rfl) e, c⟩
  | set S n => obtain ⟨ob, es, ep, t, e, c⟩ := x; exact ⟨ob, es, ep, t, k _ _ (.inl rfl) e, c⟩
  | ins C dx fs =>
    obtain ⟨d, z, ne, e, mA, ⟨od, es, ep, e2, c⟩, r⟩ := x
    exact ⟨ho _ d, z, ne, k _ _ (.inl rfl) e, mA, ⟨od, es, ep, k _ _ (.inr d) e2, c⟩, r⟩
  | own y => obtain ⟨ob, e⟩ := x; exact ⟨ob, k _ _ (.inl rfl) e⟩
  | xd fs => obtain ⟨mA, ⟨od, es, ep, e, c⟩, r⟩ := x; exact ⟨mA, ⟨od, es, ep, k _ _ (.inl rfl) e, c⟩, r⟩
  | rng lo hi => obtain ⟨t, u, v, e⟩ := x; exact ⟨t, u, v, k _ _ (.inl rfl) e⟩
  | frz ob u ih => obtain ⟨e, q⟩ := x; exact ⟨k _ _ (.inl rfl) e, ih q⟩
  | tbl ps =>
    have e : h.get? a = some { cls := .none, data := .fields ps } := x
    show h'.get? a = some { cls := .none, data := .fields ps }
    exact k a _ (.inl rfl) e
  | met f y =>
    have e : h.get? a = some (PySem.W.methodObj (.ref f) (.ref y)) := x
    show h'.get? a = some (PySem.W.methodObj (.ref f) (.ref y))
    exact k a _ (.inl rfl) e
  | ext φ => obtain ⟨p, ⟨o, e⟩, st⟩ := x; exact ⟨st _ _ p fun o q => k _ _ (.inl rfl) q, ⟨o, k _ _ (.inl rfl) e⟩, st⟩
theorem HOk.lt (x : HOk P w H h) (e : H a = some o) : a < h.objs.size := (x a o e).lt
theorem HOk.fresh (x : HOk P w H h) (e : h.objs.size ≤ a) : H a = none := by
  cases q : H a with
  | none => rfl
  | some u => exact absurd (Nat.lt_of_lt_of_le (x.lt q) e) (Nat.lt_irrefl _)
/-- every object of the heap is kept -/
theorem HOk.kept (x : HOk P w H h) (k : ∀ b u, h.get? b = some u → h'.get? b = some u) : HOk P w H h' := fun a o e =>
  (x a o e).stay (fun b u _ q => k b u q) (fun _ q => q) fun _ _ q => q
/-- a new object is laid and tracked -/
theorem HOk.laid (x : HOk P w H h) (k : ∀ b u, h.get? b = some u → h'.get? b = some u) (hp : h.objs.size ≤ a) (new : ObjOk P w (upd H a o) h' a o) : HOk P w (upd H a o) h' := fun b u e => by
  have hn := x.fresh hp
  by_cases hb : b = a
  · subst hb; rw [upd_same] at e; cases e; exact new
  · rw [upd_ne hb] at e
    exact (x b u e).stay (fun c v _ q => k c v q) (fun c q => by rw [upd_ne (ne_of_none q hn)]; exact q) fun c xs q => by rw [upd_ne (ne_of_none q hn)]; exact q
end

/-- what may be read as u: it is u, or a known u -/
def Rd (H : Hp) (a : Addr) (u : HO) : Prop := H a = some u ∨ ∃ o, H a = some (.frz o u)
theorem Rd.ok {P : Program} {w : World} {H : Hp} {h : Heap} {a : Addr} {u : HO} (r : Rd H a u) (x : HOk P w H h) : ObjOk P w H h a u := by
  rcases r with r | ⟨o, r⟩
  · exact x a u r
  · obtain ⟨_, q⟩ := x a _ r
    exact q
/-- what may be written -/
def Mut : Option HO → Prop
  | some (.lst _) => True
  | some (.dK _) => True
  | some (.dT _) => True
  | some (.set _ _) => True
  | some (.ins _ _ _) => True
  | some (.ext _) => True
  | _ => False
section
variable {P : Program} {w : World} {H : Hp} {h h' : Heap} {x e : Addr} {o' : HO}
/-- the object at e is changed: x itself, or the dict of the instance x -/
theorem HOk.write (ok : HOk P w H h) (mu : Mut (H x)) (he : e = x ∨ H e = some (.own x)) (k : ∀ b u, b ≠ e → h.get? b = some u → h'.get? b = some u) (heo : ∃ u, h'.get? e = some u)
    (new : ObjOk P w (upd H x o') h' x o') : HOk P w (upd H x o') h' := fun b u q => by
  have nown : ∀ c y, H c = some (.own y) → c ≠ x := fun c y r z => by subst z; rw [r] at mu; exact mu
  have ntup : ∀ c xs, H c = some (.tup xs) → c ≠ x := fun c xs r z => by subst z; rw [r] at mu; exact mu
  by_cases hb : b = x
  · subst hb; rw [upd_same] at q; cases q; exact new
  · rw [upd_ne hb] at q
    by_cases hbe : b = e
    · have q' : H b = some (.own x) := by
        rcases he with z | z
        · exact absurd (hbe.trans z) hb
        · rw [hbe]; exact z
      rw [q] at q'; cases q'
      obtain ⟨v, hv⟩ := heo
      exact ⟨v, by rw [hbe]; exact hv⟩
    · refine (ok b u q).stay (fun c v hc r => k c v ?_ r) (fun c r => by rw [upd_ne (nown c b r)]; exact r) fun c xs r => by rw [upd_ne (ntup c xs r)]; exact r
      rcases hc with rfl | hc
      · exact hbe
      · rintro rfl
        rcases he with z | z
        · exact nown c b hc z
        · rw [hc] at z; cases z; exact hb rfl
end

/-! ### kept unless tracked; of the frames at fs (the callers') the slots may change (an exception that passes writes there); of the records at ex (iterators) nothing is said -/
structure Un (fs ex : List Addr) (H H' : Hp) (h h' : Heap) : Prop where
  keep : ∀ b o, h.get? b = some o → H b = none → b ∉ fs → b ∉ ex → h'.get? b = some o
  slot : ∀ b o, h.get? b = some o → H b = none → b ∈ fs → b ∉ ex → ∃ sl, h'.get? b = some { o with slots := sl }
  free : ∀ b o, h.get? b = some o → H b = none → b ∉ ex → H' b = none
  there : ∀ b o, h.get? b = some o → b ∉ ex → ∃ o', h'.get? b = some o'
  tups : ∀ b xs, H b = some (.tup xs) → H' b = some (.tup xs)
  frzs : ∀ b o u, H b = some (.frz o u) → H' b = some (.frz o u)
  tbls : ∀ b ps, H b = some (.tbl ps) → ∃ more, H' b = some (.tbl (ps ++ more))
section
variable {fs fs' ex ex' : List Addr} {H H1 H2 : Hp} {h h1 h2 h' : Heap} {a x e : Addr} {o : HO}
theorem Un.any (u : Un fs ex H H1 h h1) {b : Addr} {ob : Obj} (q : h.get? b = some ob) (n : H b = none) (hx : b ∉ ex) : ∃ sl, h1.get? b = some { ob with slots := sl } := by
  by_cases hb : b ∈ fs
  · exact u.slot b ob q n hb hx
  · exact ⟨ob.slots, u.keep b ob q n hb hx⟩
theorem Un.kept (k : ∀ b u, h.get? b = some u → h'.get? b = some u) : Un fs ex H H h h' :=
  ⟨fun b ob q _ _ _ => k b ob q, fun b ob q _ _ _ => ⟨ob.slots, k b ob q⟩, fun _ _ _ n _ => n, fun b ob q _ => ⟨ob, k b ob q⟩, fun _ _ q => q, fun _ _ _ q => q, fun _ ps q => ⟨#[], by rw [q]; simp⟩⟩
theorem Un.refl : Un fs ex H H h h := Un.kept fun _ _ q => q
theorem Un.laid (k : ∀ b u, h.get? b = some u → h'.get? b = some u) (hp : h.objs.size ≤ a) (hn : H a = none) : Un fs ex H (upd H a o) h h' where
  keep := fun b u q _ _ _ => k b u q
  slot := fun b u q _ _ _ => ⟨u.slots, k b u q⟩
  free := fun b u q n _ => by rw [upd_ne (Nat.ne_of_lt (Nat.lt_of_lt_of_le (Heap.lt_size q) hp))]; exact n
  there := fun b u q _ => ⟨u, k b u q⟩
  tups := fun b xs q => by rw [upd_ne (ne_of_none q hn)]; exact q
  frzs := fun b u xs q => by rw [upd_ne (ne_of_none q hn)]; exact q
  tbls := fun b ps q => ⟨#[], by rw [upd_ne (ne_of_none q hn), q]; simp⟩
theorem Un.write (mu : Mut (H x)) (he : e = x ∨ H e = some (.own x)) (k : ∀ b u, b ≠ e → h.get? b = some u → h'.get? b = some u) (heo : ∃ u, h'.get? e = some u) : Un fs ex H (upd H x o) h h' := by
  have hx : ∀ b, H b = none → b ≠ x := fun b n z => by subst z; rw [n] at mu; exact mu
  have hb : ∀ b, H b = none → b ≠ e := fun b n z => by
    subst z
    rcases he with r | r
    · exact hx b n r
    · rw [n] at r; cases r
  have hm : ∀ b u, H b = some u → ¬ Mut (some u) → b ≠ x := fun b u q nm z => by subst z; rw [q] at mu; exact nm mu
  refine ⟨fun b u q n _ _ => k b u (hb b n) q, fun b u q n _ _ => ⟨u.slots, k b u (hb b n) q⟩, fun b u q n _ => by rw [upd_ne (hx b n)]; exact n, fun b u q _ => ?_,
    fun b xs q => by rw [upd_ne (hm b _ q fun z => z)]; exact q, fun b u xs q => by rw [upd_ne (hm b _ q fun z => z)]; exact q, fun b ps q => ⟨#[], by rw [upd_ne (hm b _ q fun z => z), q]; simp⟩⟩
  by_cases hbe : b = e
  · subst hbe; exact heo
  · exact ⟨u, k b u hbe q⟩
end

/-! ### the heap without what is tracked -/
def trk (h : Heap) (H : Hp) : List Addr := (List.range h.objs.size).filter fun a => (H a).isSome
def hidT (h : Heap) (H : Hp) : Heap := PySem.W.hideAll h (trk h H)
theorem hidT_size (h : Heap) (H : Hp) : (hidT h H).objs.size = h.objs.size := PySem.W.hideAll_size _ _
theorem hidT_get {h : Heap} {H : Hp} {b : Addr} {o : Obj} (e : h.get? b = some o) (n : H b = none) : (hidT h H).get? b = some o :=
  PySem.W.hideAll_get _ e fun hm => by
    have q : (H b).isSome = true := (List.mem_filter.mp hm).2
    rw [n] at q; simp at q
theorem of_hidT {h : Heap} {H : Hp} {b : Addr} {o : Obj} (e : (hidT h H).get? b = some o) : h.get? b = some o ∧ H b = none := by
  have e' : h.get? b = some o := PySem.W.of_hideAll (trk h H) e
  refine ⟨e', ?_⟩
  cases q : H b with
  | none => rfl
  | some x =>
    have hm : b ∈ trk h H := List.mem_filter.mpr ⟨List.mem_range.mpr (Heap.lt_size e'), by simp [q]⟩
    have z : (hidT h H).get? b = none := PySem.W.hideAll_none (trk h H) hm
    rw [z] at e; cases e

/-! ### OpenK's ledger, filled with every new object but one -/
end L2

namespace L2
open PySem PySem.Spec PyProof.Rows

/-- the module's facts, over the base: the heap at the law's entry without what is tracked there -/
structure Mod (K : PySem.W.Frag) (mg : Str → Option Value) (base : Heap) : Prop where
  kin : K.In base
  glob : base.Ns mainGlobals mg
  blt : ∃ mb, base.Ns builtinsNs mb ∧ ∀ x : Str, x ≠ "__name__" → mb x = bootBuiltins x
  nolimit : base.NoLimit

/-- the context: a def's body (or a comprehension's block) running. base: fixed through the whole law; s₀, H₀: the entry; outer: the frames whose slots others may change (a def's callers); stack: all frames that run;
   ex: iterators that were made ahead of the entry and are walked here (a comprehension's); fn: the names whose cells were made at the entry (a def: all; a comprehension's block: its own); calm: not within an except suite; pn: pins that every state bears; xe: what is wanted of an exception that leaves the code -/
structure Cx where
  prog : Program
  w : World
  K : PySem.W.Frag
  mg : Str → Option Value
  base : Heap
  A : Around
  N : List Str
  s₀ : Shared
  H₀ : Hp
  env : Env
  outer : List Env
  stack : List Env
  ex : List Addr
  fn : Str → Bool
  calm : Bool
  pn : List (Addr × Obj)
  xe : Value → Shared → Prop
/-- the callers' frames -/
def frs (l : List Env) : List Addr := l.filterMap (·.frame)
abbrev Cx.fs (X : Cx) : List Addr := frs X.outer

def Vis (sc : Scope) (x : Str) : Prop := sc.names.lookup x = some .local ∨ sc.names.lookup x = some .cell ∨ sc.names.lookup x = some .free
def Loc (sc : Scope) (x : Str) : Prop := sc.names.lookup x = some .local ∨ sc.names.lookup x = some .cell
def Look (env : Env) (h : Heap) (m : Str → Option Value) (x : Str) (u : Value) : Prop :=
  (env.kindOf x = some .local ∧ m x = some u) ∨ ((env.kindOf x = some .cell ∨ env.kindOf x = some .free) ∧ ∃ c, env.cells.lookup x = some c ∧ h.IsCell c (some u))

structure Cx.Ok (X : Cx) : Prop where
  mod : Mod X.K X.mg X.base
  kind : X.env.scope.kind = .function
  glob : X.env.globals = mainGlobals
  blt : X.env.builtins = builtinsNs
  above : X.s₀.heap.objs.size ≤ X.env.locals
  inj : ∀ x y c, X.env.cells.lookup x = some c → X.env.cells.lookup y = some c → x = y
  has : ∀ x, (X.env.kindOf x = some .cell ∨ X.env.kindOf x = some .free) → ∃ c, X.env.cells.lookup x = some c
  cab : ∀ x c, X.fn x = true → X.env.cells.lookup x = some c → X.s₀.heap.objs.size ≤ c
  hd : X.calm = true → X.A.handled = none
  frames : X.A.frames = some X.stack
  stk : X.stack = X.outer ∨ (X.stack = X.env :: X.outer ∧ X.env.frame = some X.env.locals)
  exf : ∀ b ∈ X.ex, b ≠ X.env.locals ∧ ∀ x c, X.env.cells.lookup x = some c → c ≠ b
  bs : ∀ b o, X.base.get? b = some o → X.s₀.heap.get? b = some o ∧ X.H₀ b = none
  bsz : X.base.objs.size ≤ X.s₀.heap.objs.size
  noex : ∀ b o, X.base.get? b = some o → b ∉ X.ex
  exfs : ∀ b ∈ X.ex, b ∉ X.fs
  funs : X.s₀.heap.FunFrames X.base X.outer
  frf : ∀ b ∈ X.fs, X.H₀ b = none

structure Inv (X : Cx) (pins : List (Addr × Obj)) (σ : List (Option V)) (H : Hp) (s : Shared) : Prop where
  ok : X.Ok
  os : s.os = X.s₀.os
  bare : AllBare s.gens
  base : Un X.fs X.ex X.H₀ H X.s₀.heap s.heap
  loc : ∃ m, s.heap.Ns X.env.locals m ∧ ∀ (i : Nat) (x : Str) (v : V), X.N[i]? = some x → σ[i]? = some (some v) → Vis X.env.scope x → ∃ u, RelV v u ∧ Look X.env s.heap m x u
  cell : ∀ x c, X.env.cells.lookup x = some c → ∃ v, s.heap.IsCell c v
  free : H X.env.locals = none
  freeC : ∀ x c, X.env.cells.lookup x = some c → H c = none
  pin : ∀ p ∈ X.pn ++ pins, s.heap.get? p.1 = some p.2 ∧ H p.1 = none ∧ p.1 ≠ X.env.locals ∧ p.1 ∉ X.fs ∧ ∀ v, p.2.data ≠ .cell v
  hok : HOk X.prog X.w H s.heap
  len : σ.length = X.N.length

section
variable {X : Cx} {pins : List (Addr × Obj)} {σ : List (Option V)} {H H' : Hp} {s : Shared} {h' : Heap}

theorem Cx.Ok.nofr (ok : X.Ok) {b : Addr} {o : Obj} (e : X.base.get? b = some o) : b ∉ X.fs := fun hb => by
  have := (ok.funs.mem hb).1
  rw [e] at this; cases this
theorem Inv.bs (I : Inv X pins σ H s) : ∀ b o, X.base.get? b = some o → s.heap.get? b = some o ∧ H b = none := fun b o e =>
  ⟨I.base.keep b o (I.ok.bs b o e).1 (I.ok.bs b o e).2 (I.ok.nofr e) (I.ok.noex b o e), I.base.free b o (I.ok.bs b o e).1 (I.ok.bs b o e).2 (I.ok.noex b o e)⟩
theorem Inv.bk (I : Inv X pins σ H s) : ∀ b o, X.base.get? b = some o → s.heap.get? b = some o := fun b o e => (I.bs b o e).1
theorem Inv.mod (I : Inv X pins σ H s) : Mod X.K X.mg X.base := I.ok.mod
theorem Inv.kIn (I : Inv X pins σ H s) : X.K.In s.heap := I.ok.mod.kin.keeps I.bk
theorem Inv.lt (I : Inv X pins σ H s) : X.env.locals < s.heap.objs.size := let ⟨_, hn, _⟩ := I.loc; hn.lt
theorem Inv.sz (I : Inv X pins σ H s) : X.s₀.heap.objs.size ≤ s.heap.objs.size := Nat.le_trans I.ok.above (Nat.le_of_lt I.lt)
theorem Inv.nofs (I : Inv X pins σ H s) {a : Addr} (h : s.heap.objs.size ≤ a) : a ∉ X.fs := fun hb => by
  obtain ⟨_, o, ho, _⟩ := I.ok.funs.mem hb
  exact absurd (Nat.lt_of_lt_of_le (Heap.lt_size ho) (Nat.le_trans I.sz h)) (Nat.lt_irrefl _)
theorem Inv.cne (I : Inv X pins σ H s) : ∀ x c, X.env.cells.lookup x = some c → c ≠ X.env.locals := fun x c e z => by
  obtain ⟨v, o, ho, hd⟩ := I.cell x c e
  obtain ⟨m, ⟨o', es, ep, ho', hd', _⟩, _⟩ := I.loc
  rw [z, ho'] at ho; cases ho; rw [hd'] at hd; cases hd
theorem Inv.funs (I : Inv X pins σ H s) : s.heap.FunFrames X.base X.outer := by
  have all : ∀ (l : List Env), (∀ b ∈ frs l, b ∈ X.fs) → X.s₀.heap.FunFrames X.base l → s.heap.FunFrames X.base l := by
    intro l
    induction l with
    | nil => intro _ _; trivial
    | cons env r ih =>
      intro hs hl
      obtain ⟨hk, ⟨L, o, hf, hn, ho, hd⟩, hr⟩ := hl
      have hL : L ∈ X.fs := hs L (by unfold frs; rw [List.filterMap_cons, hf]; exact List.mem_cons_self)
      obtain ⟨sl, e⟩ := I.base.slot L o ho (I.ok.frf L hL) hL fun z => I.ok.exfs L z hL
      exact ⟨hk, ⟨L, _, hf, hn, e, hd⟩, ih (fun b hb => hs b (by unfold frs; rw [List.filterMap_cons, hf]; exact List.mem_cons_of_mem _ hb)) hr⟩
  exact all X.outer (fun _ hb => hb) I.ok.funs

/-- the frames that run, for a call -/
theorem Inv.stack (I : Inv X pins σ H s) : s.heap.FunFrames X.base X.stack := by
  rcases I.ok.stk with e | ⟨e, hf⟩
  · rw [e]; exact I.funs
  · rw [e]
    obtain ⟨m, hn, _⟩ := I.loc
    refine .cons (by rw [I.ok.kind]; decide) hf hn ?_ I.funs
    exact Heap.get?_none_of_le (Nat.le_trans I.ok.bsz I.ok.above)
theorem Inv.stkSub (I : Inv X pins σ H s) : ∀ b ∈ frs X.stack, b ∈ X.env.locals :: X.fs := fun b hb => by
  rcases I.ok.stk with e | ⟨e, hf⟩
  · rw [e] at hb; exact List.mem_cons_of_mem _ hb
  · rw [e] at hb
    unfold frs at hb
    rw [List.filterMap_cons, hf] at hb
    exact hb
theorem Inv.stkFree (I : Inv X pins σ H s) : ∀ b ∈ frs X.stack, H b = none := fun b hb => by
  rcases List.mem_cons.mp (I.stkSub b hb) with e | hb
  · rw [e]; exact I.free
  · obtain ⟨_, o, ho, _⟩ := I.ok.funs.mem hb
    exact I.base.free b o ho (I.ok.frf b hb) fun z => I.ok.exfs b z hb

/-- THE STEP: the untracked objects but the frame and the records at ch are kept (the callers' frames up to slots), the frame's map is kept, the new abstract heap is held -/
theorem Inv.step {g' : Array GenState} {t' : Nat} {d' : Drawn} {ch : List Addr} (I : Inv X pins σ H s)
    (hch : ∀ b ∈ ch, (b ∈ X.ex ∨ X.s₀.heap.objs.size ≤ b) ∧ b ≠ X.env.locals ∧ (∀ x c, X.env.cells.lookup x = some c → c ≠ b) ∧ ∀ p ∈ X.pn ++ pins, p.1 ≠ b)
    (keep : ∀ b o, b ≠ X.env.locals → b ∉ X.fs → b ∉ ch → s.heap.get? b = some o → H b = none → h'.get? b = some o)
    (slot : ∀ b o, b ≠ X.env.locals → b ∈ X.fs → b ∉ ch → s.heap.get? b = some o → H b = none → ∃ sl, h'.get? b = some { o with slots := sl }) (free : ∀ b o, b ∉ ch → s.heap.get? b = some o → H b = none → H' b = none)
    (there : ∀ b o, b ∉ ch → s.heap.get? b = some o → ∃ o', h'.get? b = some o')
    (tups : ∀ b xs, H b = some (.tup xs) → H' b = some (.tup xs)) (frzs : ∀ b o u, H b = some (.frz o u) → H' b = some (.frz o u)) (tbls : ∀ b ps, H b = some (.tbl ps) → ∃ more, H' b = some (.tbl (ps ++ more)))
    (ns : ∀ m, s.heap.Ns X.env.locals m → h'.Ns X.env.locals m) (hok : HOk X.prog X.w H' h') (hg : AllBare g') :
    Inv X pins σ H' { s with heap := h', gens := g', drawn := d', toks := t' } := by
  have neL : ∀ b o, X.s₀.heap.get? b = some o → b ≠ X.env.locals := fun b o e => Nat.ne_of_lt (Nat.lt_of_lt_of_le (Heap.lt_size e) I.ok.above)
  have neC : ∀ b o, X.s₀.heap.get? b = some o → b ∉ X.ex → b ∉ ch := fun b o e hx hb => by
    rcases (hch b hb).1 with z | z
    · exact hx z
    · exact absurd (Nat.lt_of_lt_of_le (Heap.lt_size e) z) (Nat.lt_irrefl _)
  have cellK : ∀ x c, X.env.cells.lookup x = some c → ∀ v, s.heap.IsCell c v → h'.IsCell c v := fun x c e v ⟨o, ho, hd⟩ => by
    have nch : c ∉ ch := fun z => (hch c z).2.2.1 x c e rfl
    by_cases hc : c ∈ X.fs
    · obtain ⟨sl, q⟩ := slot c o (I.cne x c e) hc nch ho (I.freeC x c e)
      exact ⟨_, q, hd⟩
    · exact ⟨o, keep c o (I.cne x c e) hc nch ho (I.freeC x c e), hd⟩
  refine ⟨I.ok, I.os, hg, ⟨fun b o e n hb hx => ?_, fun b o e n hb hx => ?_, fun b o e n hx => ?_, fun b o e hx => ?_, fun b xs e => tups b xs (I.base.tups b xs e), fun b o xs e => frzs b o xs (I.base.frzs b o xs e), fun b ps e => ?_⟩, ?_, fun x c e => ?_, ?_, fun x c e => ?_, fun p hp => ?_, hok, I.len⟩
  · exact keep b o (neL b o e) hb (neC b o e hx) (I.base.keep b o e n hb hx) (I.base.free b o e n hx)
  · obtain ⟨sl, e1⟩ := I.base.slot b o e n hb hx
    obtain ⟨sl', e2⟩ := slot b _ (neL b o e) hb (neC b o e hx) e1 (I.base.free b o e n hx)
    exact ⟨sl', e2⟩
  · obtain ⟨o', e1⟩ := I.base.there b o e hx
    exact free b o' (neC b o e hx) e1 (I.base.free b o e n hx)
  · obtain ⟨o', e1⟩ := I.base.there b o e hx
    exact there b o' (neC b o e hx) e1
  · obtain ⟨m1, e1⟩ := I.base.tbls b ps e
    obtain ⟨m2, e2⟩ := tbls b _ e1
    exact ⟨m1 ++ m2, by rw [e2, Array.append_assoc]⟩
  · obtain ⟨m, hn, hl⟩ := I.loc
    refine ⟨m, ns m hn, fun i x v e1 e2 e3 => ?_⟩
    obtain ⟨u, r, l⟩ := hl i x v e1 e2 e3
    refine ⟨u, r, ?_⟩
    rcases l with l | ⟨k, c, e, z⟩
    · exact .inl l
    · exact .inr ⟨k, c, e, cellK x c e _ z⟩
  · obtain ⟨v, z⟩ := I.cell x c e
    exact ⟨v, cellK x c e v z⟩
  · obtain ⟨m, ⟨o, _, _, ho, _⟩, _⟩ := I.loc
    exact free _ o (fun z => (hch _ z).2.1 rfl) ho I.free
  · obtain ⟨v, o, ho, hd⟩ := I.cell x c e
    exact free c o (fun z => (hch c z).2.2.1 x c e rfl) ho (I.freeC x c e)
  · obtain ⟨e, n, ne, nf, d⟩ := I.pin p hp
    have nch : p.1 ∉ ch := fun z => (hch p.1 z).2.2.2 p hp rfl
    exact ⟨keep p.1 p.2 ne nf nch e n, free p.1 p.2 nch e n, ne, nf, d⟩
/-- .. where the frame's own object is kept too -/
theorem Inv.un {t' : Nat} (I : Inv X pins σ H s) (u : Un X.fs [] H H' s.heap h') (hok : HOk X.prog X.w H' h') : Inv X pins σ H' { s with heap := h', toks := t' } := by
  obtain ⟨m, ⟨o, es, ep, ho, r⟩, _⟩ := id I.loc
  obtain ⟨sl, hL⟩ := u.any ho I.free (by simp)
  exact I.step (g' := s.gens) (d' := s.drawn) (ch := []) (fun _ z => nomatch z) (fun b o _ hb _ e n => u.keep b o e n hb (by simp)) (fun b o _ hb _ e n => u.slot b o e n hb (by simp)) (fun b o _ e n => u.free b o e n (by simp)) (fun b o _ e => u.there b o e (by simp)) u.tups u.frzs u.tbls (fun m' hm => by
    obtain ⟨o', es', ep', ho', r'⟩ := hm
    rw [ho] at ho'; cases ho'
    exact ⟨_, es', ep', hL, r'⟩) hok I.bare
/-- behind a call (or a comprehension's block): the slots of this frame may have changed too, the records at ch may have turned -/
theorem Inv.call {g' : Array GenState} {t' : Nat} {d' : Drawn} {ch : List Addr} (I : Inv X pins σ H s) (u : Un (frs X.stack) ch H H' s.heap h') (hok : HOk X.prog X.w H' h') (hg : AllBare g')
    (hch : ∀ b ∈ ch, (b ∈ X.ex ∨ X.s₀.heap.objs.size ≤ b) ∧ b ≠ X.env.locals ∧ (∀ x c, X.env.cells.lookup x = some c → c ≠ b) ∧ ∀ p ∈ X.pn ++ pins, p.1 ≠ b) :
    Inv X pins σ H' { s with heap := h', gens := g', drawn := d', toks := t' } := by
  obtain ⟨m, ⟨o, es, ep, ho, r⟩, _⟩ := id I.loc
  obtain ⟨sl, hL⟩ := u.any ho I.free fun z => (hch _ z).2.1 rfl
  exact I.step (ch := ch) hch (fun b o hL hb hc e n => u.keep b o e n (fun z => (List.mem_cons.mp (I.stkSub b z)).elim hL hb) hc) (fun b o _ _ hc e n => u.any e n hc) (fun b o hc e n => u.free b o e n hc) (fun b o hc e => u.there b o e hc) u.tups u.frzs u.tbls (fun m' hm => by
    obtain ⟨o', es', ep', ho', r'⟩ := hm
    rw [ho] at ho'; cases ho'
    exact ⟨_, es', ep', hL, r'⟩) hok hg
/-- an untracked record of ours (an iterator) has turned -/
theorem Inv.turned {t' : Nat} {it : Addr} (I : Inv X pins σ H s) (k : ∀ b o, b ≠ it → s.heap.get? b = some o → h'.get? b = some o) (hn : H it = none) (hL : it ≠ X.env.locals)
    (h1 : it ∈ X.ex ∨ X.s₀.heap.objs.size ≤ it) (h2 : ∀ x c, X.env.cells.lookup x = some c → c ≠ it) (h3 : ∀ p ∈ X.pn ++ pins, p.1 ≠ it) : Inv X pins σ H { s with heap := h', toks := t' } := by
  have nit : ∀ b u, H b = some u → b ≠ it := fun b u e z => by rw [z, hn] at e; cases e
  refine I.step (g' := s.gens) (d' := s.drawn) (ch := [it]) (fun b hb => ?_) (fun b o _ _ hc e _ => k b o (fun z => hc (by simp [z])) e) (fun b o _ _ hc e _ => ⟨o.slots, k b o (fun z => hc (by simp [z])) e⟩) (fun _ _ _ _ n => n)
    (fun b o hc e => ⟨o, k b o (fun z => hc (by simp [z])) e⟩) (fun _ _ e => e) (fun _ _ _ e => e) (fun b ps e => ⟨#[], by rw [e]; simp⟩) (fun m hm => ?_) (fun b u e => ?_) I.bare
  · have e : b = it := by simpa using hb
    subst e
    exact ⟨h1, hL, h2, h3⟩
  · obtain ⟨o, es, ep, ho, r⟩ := hm
    exact ⟨o, es, ep, k _ o (Ne.symm hL) ho, r⟩
  · refine (I.hok b u e).stay (fun c v hc q => k c v ?_ q) (fun _ q => q) fun _ _ q => q
    rcases hc with z | z
    · rw [z]; exact nit b u e
    · exact nit c _ z
theorem Inv.tok (I : Inv X pins σ H s) (t : Nat) : Inv X pins σ H { s with toks := t } := I.un (h' := s.heap) (t' := t) Un.refl I.hok
/-- all objects kept -/
theorem Inv.kept {t' : Nat} (I : Inv X pins σ H s) (k : ∀ b u, s.heap.get? b = some u → h'.get? b = some u) : Inv X pins σ H { s with heap := h', toks := t' } := I.un (Un.kept k) (I.hok.kept k)
/-- a new object laid and tracked -/
theorem Inv.laid {a : Addr} {o : HO} {t' : Nat} (I : Inv X pins σ H s) (k : ∀ b u, s.heap.get? b = some u → h'.get? b = some u) (hp : s.heap.objs.size ≤ a) (new : ObjOk X.prog X.w (upd H a o) h' a o) :
    Inv X pins σ (upd H a o) { s with heap := h', toks := t' } := I.un (Un.laid k hp (I.hok.fresh hp)) (I.hok.laid k hp new)
/-- an object written -/
theorem Inv.write {x e : Addr} {o : HO} {t' : Nat} (I : Inv X pins σ H s) (mu : Mut (H x)) (he : e = x ∨ H e = some (.own x)) (k : ∀ b u, b ≠ e → s.heap.get? b = some u → h'.get? b = some u) (heo : ∃ u, h'.get? e = some u)
    (new : ObjOk X.prog X.w (upd H x o) h' x o) : Inv X pins σ (upd H x o) { s with heap := h', toks := t' } := I.un (Un.write mu he k heo) (I.hok.write mu he k heo new)
/-- forgetting slots, pins -/
theorem Inv.weak {σ' : List (Option V)} (I : Inv X pins σ H s) (hl : σ'.length = σ.length) (w : ∀ (i : Nat) v, σ'[i]? = some (some v) → σ[i]? = some (some v)) : Inv X pins σ' H s :=
  ⟨I.ok, I.os, I.bare, I.base, let ⟨m, hn, hl'⟩ := I.loc; ⟨m, hn, fun i x v e1 e2 e3 => hl' i x v e1 (w i v e2) e3⟩, I.cell, I.free, I.freeC, I.pin, I.hok, hl.trans I.len⟩
theorem Inv.pins_of {pins' : List (Addr × Obj)} (I : Inv X pins σ H s) (h : ∀ p ∈ pins', s.heap.get? p.1 = some p.2 ∧ H p.1 = none ∧ p.1 ≠ X.env.locals ∧ p.1 ∉ X.fs ∧ ∀ v, p.2.data ≠ .cell v) : Inv X pins' σ H s :=
  ⟨I.ok, I.os, I.bare, I.base, I.loc, I.cell, I.free, I.freeC, fun p hp => (List.mem_append.mp hp).elim (fun z => I.pin p (List.mem_append_left _ z)) (h p), I.hok, I.len⟩

theorem nodup_ix {N : List Str} (hN : N.Nodup) {i j : Nat} {x : Str} (a : N[i]? = some x) (b : N[j]? = some x) : i = j := by
  obtain ⟨h1, e1⟩ := List.getElem?_eq_some_iff.mp a
  obtain ⟨h2, e2⟩ := List.getElem?_eq_some_iff.mp b
  exact (List.getElem_inj hN).mp (e1.trans e2.symm)

/-- a name is stored; what changed -/
theorem store_ok2 {M : Model} {A : Around} {E : Value → Shared → Prop} {i : Nat} {x : Str} {v : V} {u : Value} {Q : Unit → Shared → Prop} (I : Inv X pins σ H s) (hN : X.N.Nodup) (hi : X.N[i]? = some x) (hx : Loc X.env.scope x) (r : RelV v u)
    (h : ∀ s', Inv X pins (σ.set i (some v)) H s' → (∃ a, Heap.SameBut a s.heap s'.heap ∧ (a = X.env.locals ∨ X.env.cells.lookup x = some a)) → Q () s') (hf : X.fn x = true ∨ X.env.scope.names.lookup x = some .local := by first | exact .inl rfl | exact .inr rfl | assumption) : wpAny M A (storeName X.env x u) Q E s := by
  obtain ⟨m, hn, hl⟩ := id I.loc
  have hcls : (X.env.scope.kind == .class || (X.env.scope.kind == .module && X.env.locals != X.env.globals)) = false := by rw [I.ok.kind]; rfl
  have hiσ : i < σ.length := by rw [I.len]; exact (List.getElem?_eq_some_iff.mp hi).1
  have cne := I.cne
  have tracked : ∀ {a : Addr} {h' : Heap}, (∃ o, s.heap.get? a = some o ∧ H a = none) → Heap.SameBut a s.heap h' → HOk X.prog X.w H h' := fun {a h'} ha hs b ob e => by
    obtain ⟨_, _, hfree⟩ := ha
    refine (I.hok b ob e).stay (fun c w' hc q => (hs.2 c ?_).trans q) (fun _ q => q) fun _ _ q => q
    rintro rfl
    rcases hc with rfl | hc
    · rw [hfree] at e; cases e
    · rw [hfree] at hc; cases hc
  rcases hx with hk | hk
  · refine wpAny_storeName_local hk hn (fun h' hn' hs => ?_) hcls
    obtain ⟨oL, _, _, hoL, _⟩ := id hn
    refine h _ ⟨I.ok, I.os, I.bare, ⟨fun b o e n hb hx => ?_, fun b o e n hb hx => ?_, I.base.free, fun b o e hx => ?_, I.base.tups, I.base.frzs, I.base.tbls⟩, ⟨_, hn', fun j y v' e1 e2 e3 => ?_⟩, fun y c e => ?_, I.free, I.freeC, fun p hp => ?_, tracked ⟨oL, hoL, I.free⟩ hs, by simpa using I.len⟩ ⟨_, hs, .inl rfl⟩
    · exact (hs.2 b (Nat.ne_of_lt (Nat.lt_of_lt_of_le (Heap.lt_size e) I.ok.above))).trans (I.base.keep b o e n hb hx)
    · obtain ⟨sl, e1⟩ := I.base.slot b o e n hb hx
      exact ⟨sl, (hs.2 b (Nat.ne_of_lt (Nat.lt_of_lt_of_le (Heap.lt_size e) I.ok.above))).trans e1⟩
    · obtain ⟨o', e1⟩ := I.base.there b o e hx
      exact ⟨o', (hs.2 b (Nat.ne_of_lt (Nat.lt_of_lt_of_le (Heap.lt_size e) I.ok.above))).trans e1⟩
    · by_cases hj : j = i
      · subst hj
        rw [hi] at e1; cases e1
        rw [List.getElem?_set_self hiσ] at e2
        cases e2
        exact ⟨u, r, .inl ⟨hk, by simp⟩⟩
      · rw [List.getElem?_set_ne (Ne.symm hj)] at e2
        obtain ⟨u', r', q⟩ := hl j y v' e1 e2 e3
        refine ⟨u', r', ?_⟩
        rcases q with ⟨k, e⟩ | ⟨k, c, e, z⟩
        · refine .inl ⟨k, ?_⟩
          have : y ≠ x := fun e => hj (nodup_ix hN e1 (e ▸ hi))
          simp [this, e]
        · exact .inr ⟨k, c, e, z.sameBut hs (cne y c e)⟩
    · obtain ⟨w', z⟩ := I.cell y c e
      exact ⟨w', z.sameBut hs (cne y c e)⟩
    · obtain ⟨e, n, ne, nf, d⟩ := I.pin p hp
      exact ⟨(hs.2 p.1 ne).trans e, n, ne, nf, d⟩
  · have hfn : X.fn x = true := by
      rcases hf with z | z
      · exact z
      · rw [z] at hk; cases hk
    obtain ⟨c, hc⟩ := I.ok.has x (.inl hk)
    obtain ⟨w', z⟩ := I.cell x c hc
    refine wpAny_storeName_cell I.ok.kind hk hc z (fun h' hc' hs => ?_)
    obtain ⟨oc, hoc, hocd⟩ := id z
    refine h { s with heap := h' } ⟨I.ok, I.os, I.bare, ⟨fun b o e n hb hx => ?_, fun b o e n hb hx => ?_, I.base.free, fun b o e hx => ?_, I.base.tups, I.base.frzs, I.base.tbls⟩, ⟨m, hn.sameBut hs (Ne.symm (cne x c hc)), fun j y v' e1 e2 e3 => ?_⟩, fun y c' e => ?_, I.free, I.freeC, fun p hp => ?_, tracked ⟨oc, hoc, I.freeC x c hc⟩ hs, by simpa using I.len⟩ ⟨c, hs, .inr hc⟩
    · exact (hs.2 b (Nat.ne_of_lt (Nat.lt_of_lt_of_le (Heap.lt_size e) (I.ok.cab x c hfn hc)))).trans (I.base.keep b o e n hb hx)
    · obtain ⟨sl, e1⟩ := I.base.slot b o e n hb hx
      exact ⟨sl, (hs.2 b (Nat.ne_of_lt (Nat.lt_of_lt_of_le (Heap.lt_size e) (I.ok.cab x c hfn hc)))).trans e1⟩
    · obtain ⟨o', e1⟩ := I.base.there b o e hx
      exact ⟨o', (hs.2 b (Nat.ne_of_lt (Nat.lt_of_lt_of_le (Heap.lt_size e) (I.ok.cab x c hfn hc)))).trans e1⟩
    · by_cases hj : j = i
      · subst hj
        rw [hi] at e1; cases e1
        rw [List.getElem?_set_self hiσ] at e2
        cases e2
        exact ⟨u, r, .inr ⟨.inl hk, c, hc, hc'⟩⟩
      · rw [List.getElem?_set_ne (Ne.symm hj)] at e2
        obtain ⟨u', r', q⟩ := hl j y v' e1 e2 e3
        refine ⟨u', r', ?_⟩
        rcases q with q | ⟨k, c', e, z'⟩
        · exact .inl q
        · refine .inr ⟨k, c', e, z'.sameBut hs ?_⟩
          rintro rfl
          exact hj (nodup_ix hN e1 (I.ok.inj _ _ _ e hc ▸ hi))
    · by_cases hcc : c' = c
      · subst hcc; exact ⟨_, hc'⟩
      · obtain ⟨w2, z2⟩ := I.cell y c' e
        exact ⟨w2, z2.sameBut hs hcc⟩
    · obtain ⟨e, n, ne, nf, d⟩ := I.pin p hp
      refine ⟨(hs.2 p.1 ?_).trans e, n, ne, nf, d⟩
      intro q
      rw [q, hoc] at e
      have q' : oc = p.2 := Option.some.inj e
      exact d w' (by rw [← q']; exact hocd)
theorem store_ok {M : Model} {A : Around} {E : Value → Shared → Prop} {i : Nat} {x : Str} {v : V} {u : Value} {Q : Unit → Shared → Prop} (I : Inv X pins σ H s) (hN : X.N.Nodup) (hi : X.N[i]? = some x) (hx : Loc X.env.scope x) (r : RelV v u)
    (h : ∀ s', Inv X pins (σ.set i (some v)) H s' → Q () s') (hf : X.fn x = true ∨ X.env.scope.names.lookup x = some .local := by first | exact .inl rfl | exact .inr rfl | assumption) : wpAny M A (storeName X.env x u) Q E s :=
  store_ok2 I hN hi hx r (fun s' I' _ => h s' I') hf
/-- behind a call or a block, the state as it is -/
theorem Inv.call' {s' : Shared} {ch : List Addr} (I : Inv X pins σ H s) (ho : s'.os = s.os) (u : Un (frs X.stack) ch H H' s.heap s'.heap) (hok : HOk X.prog X.w H' s'.heap) (hg : AllBare s'.gens)
    (hch : ∀ b ∈ ch, (b ∈ X.ex ∨ X.s₀.heap.objs.size ≤ b) ∧ b ≠ X.env.locals ∧ (∀ x c, X.env.cells.lookup x = some c → c ≠ b) ∧ ∀ p ∈ X.pn ++ pins, p.1 ≠ b) : Inv X pins σ H' s' := by
  obtain ⟨h', g', d', t', o'⟩ := s'
  have e : o' = s.os := ho
  subst e
  exact I.call (g' := g') (t' := t') (d' := d') u hok hg hch
end

/-! ### the judgements -/
/-- an exception: its class, its own dict's address (where it has one), the abstract heap behind it -/
abbrev XK := Value → Option Addr → Hp → Prop
abbrev St := List (Option V)
abbrev VK := V → Hp → Prop
/-- an expression's reading; a test's; an argument list's -/
abbrev TE := St → Hp → VK → Prop
abbrev TT := St → Hp → (Bool → Hp → Prop) → Prop
abbrev TA := St → Hp → (List V → Hp → Prop) → Prop
/-- what is wanted behind a statement -/
structure Ends where
  nx : St → Hp → Prop
  rt : VK
  bk : St → Hp → Prop := fun _ _ => False
  ct : St → Hp → Prop := fun _ _ => False
abbrev TS := Ends → St → Hp → Prop

def EP (X : Cx) (pins : List (Addr × Obj)) (σ : St) (Q : VK) (u : Value) (s' : Shared) : Prop := ∃ v H', Inv X pins σ H' s' ∧ RelV v u ∧ Q v H'
def TP (X : Cx) (pins : List (Addr × Obj)) (σ : St) (Q : Bool → Hp → Prop) (b : Bool) (s' : Shared) : Prop := ∃ H', Inv X pins σ H' s' ∧ Q b H'
def AP (X : Cx) (pins : List (Addr × Obj)) (σ : St) (Q : List V → Hp → Prop) (us : List Value) (s' : Shared) : Prop := ∃ vs H', Inv X pins σ H' s' ∧ Vals vs us ∧ Q vs H'
def SP (X : Cx) (pins : List (Addr × Obj)) (D : Ends) (f : Flow) (s' : Shared) : Prop :=
  match f with
  | .next => ∃ σ' H', Inv X pins σ' H' s' ∧ D.nx σ' H'
  | .brk => ∃ σ' H', Inv X pins σ' H' s' ∧ D.bk σ' H'
  | .cont => ∃ σ' H', Inv X pins σ' H' s' ∧ D.ct σ' H'
  | .ret u => ∃ v σ' H', Inv X pins σ' H' s' ∧ RelV v u ∧ D.rt v H'

def PE (X : Cx) (e : Expr) (t : TE) : Prop :=
  ∀ (pins : List (Addr × Obj)) (s : Shared) (σ : St) (H : Hp) (Q : VK), Inv X pins σ H s → t σ H Q → wpAny (model X.prog X.w) X.A (eval e X.env) (EP X pins σ Q) X.xe s
def PT (X : Cx) (e : Expr) (t : TT) : Prop :=
  ∀ (pins : List (Addr × Obj)) (s : Shared) (σ : St) (H : Hp) (Q : Bool → Hp → Prop), Inv X pins σ H s → t σ H Q → wpAny (model X.prog X.w) X.A (isTrue e X.env (eval e X.env)) (TP X pins σ Q) X.xe s
/-- a test whatever its 'whole' is (and, or) -/
def PW (X : Cx) (e : Expr) (t : TT) : Prop :=
  ∀ (whole : Sem Value) (pins : List (Addr × Obj)) (s : Shared) (σ : St) (H : Hp) (Q : Bool → Hp → Prop), Inv X pins σ H s → t σ H Q → wpAny (model X.prog X.w) X.A (isTrue e X.env whole) (TP X pins σ Q) X.xe s
theorem PW.pt {X : Cx} {e : Expr} {t : TT} (h : PW X e t) : PT X e t := h _
/-- an argument list (no star), from the left -/
def PA (X : Cx) (es : List Expr) (t : TA) : Prop :=
  ∀ (pos : Pos) (pins : List (Addr × Obj)) (s : Shared) (σ : St) (H : Hp) (Q : List V → Hp → Prop), Inv X pins σ H s → t σ H Q → wpAny (model X.prog X.w) X.A (spliced (backTo pos (starEach es X.env))) (AP X pins σ Q) X.xe s
def PS (X : Cx) (st : Stmt) (t : TS) : Prop :=
  ∀ (pins : List (Addr × Obj)) (s : Shared) (σ : St) (H : Hp) (D : Ends), Inv X pins σ H s → t D σ H → wpAny (model X.prog X.w) X.A (exec st X.env) (SP X pins D) X.xe s
def PSs (X : Cx) (st : List Stmt) (t : TS) : Prop :=
  ∀ (pins : List (Addr × Obj)) (s : Shared) (σ : St) (H : Hp) (D : Ends), Inv X pins σ H s → t D σ H → wpAny (model X.prog X.w) X.A (execs st X.env) (SP X pins D) X.xe s
/-- weaken the end -/
theorem thn {α : Type} {t : Sem α} {Q Q' : α → Shared → Prop} {M : Model} {A : Around} {E : Value → Shared → Prop} {s : Shared} (h : wpAny M A t Q E s) (hQ : ∀ a s, Q a s → Q' a s) : wpAny M A t Q' E s := wpAny_mono h hQ fun _ _ x => x
end L2

namespace L2
open PySem PySem.Spec PyProof.Rows
section
variable {X : Cx}


/-! ### names and constants -/
def tVar (i : Nat) : TE := fun σ H Q => ∃ v, σ[i]? = some (some v) ∧ Q v H
def tC (v : V) : TE := fun _ H Q => Q v H
theorem pe_var {i : Nat} {x : Str} {pos : Pos} (hN : X.N[i]? = some x) (hv : Vis X.env.scope x) (hd : (x == ("__debug__" : Str)) = false := by decide) (hcd : (x == ("__classdict__" : Str)) = false := by decide) : PE X (.Name x pos) (tVar i) := by
  intro pins s σ H Q I h
  obtain ⟨v, e, h⟩ := h
  obtain ⟨m, hn, hl⟩ := I.loc
  obtain ⟨u, r, l⟩ := hl i x v hN e hv
  have fin : EP X pins σ Q u s := ⟨v, H, I, r, h⟩
  rcases l with ⟨hk, hm⟩ | ⟨hk, c, hc, hcell⟩
  · exact wpAny_Name (wpAny_loadName_local I.ok.kind hk hn hm fin) hd
  · rcases hk with hk | hk
    · exact wpAny_Name (wpAny_loadName_cell I.ok.kind hk hc hcell fin) hd
    · exact wpAny_Name (wpAny_loadName_free I.ok.kind hk hc hcell fin hcd) hd
theorem pe_int {i j pos} : PE X (.Constant (.int i) j pos) (tC (.int i)) := fun _ _ _ H _ I h => wpAny_Constant_int ⟨.int i, H, I.tok _, ⟨_, rfl⟩, h⟩
theorem pe_bl {b j pos} : PE X (.Constant (.bool b) j pos) (tC (.bl b)) := fun _ _ _ H _ I h => Constant_bool ⟨.bl b, H, I, rfl, h⟩
theorem pe_non {j pos} : PE X (.Constant .none j pos) (tC .non) := fun _ _ _ H _ I h => Constant_none ⟨.non, H, I, rfl, h⟩
theorem pe_str {x j pos} : PE X (.Constant (.str x) j pos) (tC (.str x)) := fun _ _ _ H _ I h => Calls.Constant_str ⟨.str x, H, I.tok _, ⟨_, rfl⟩, h⟩

/-- a global name of the def -/
def Gl (X : Cx) (x : Str) : Prop := X.env.kindOf x = some .globalImplicit
theorem ld_glob {E : Value → Shared → Prop} {pins : List (Addr × Obj)} {s : Shared} {σ : St} {H : Hp} {x : Str} {u : Value} {pos : Pos} {Q : Value → Shared → Prop} (I : Inv X pins σ H s) (hg : Gl X x) (hm : X.mg x = some u) (h : Q u s)
    (hd : (x == ("__debug__" : Str)) = false := by decide) : wpAny (model X.prog X.w) X.A (eval (.Name x pos) X.env) Q E s :=
  Calls.Name_function_global I.ok.kind hg (Calls.loadGlobal_global (by rw [I.ok.glob]; exact I.mod.glob.keeps I.bk) hm h) hd
theorem ld_blt {E : Value → Shared → Prop} {pins : List (Addr × Obj)} {s : Shared} {σ : St} {H : Hp} {x : Str} {u : Value} {pos : Pos} {Q : Value → Shared → Prop} (I : Inv X pins σ H s) (hg : Gl X x) (hm : X.mg x = none) (hv : bootBuiltins x = some u) (h : Q u s)
    (hn : x ≠ "__name__" := by decide) (hd : (x == ("__debug__" : Str)) = false := by decide) : wpAny (model X.prog X.w) X.A (eval (.Name x pos) X.env) Q E s := by
  obtain ⟨mb, h1, h2⟩ := I.mod.blt
  exact Calls.Name_function_global I.ok.kind hg (Calls.loadGlobal_builtin (by rw [I.ok.glob]; exact I.mod.glob.keeps I.bk) hm (by rw [I.ok.blt]; exact h1.keeps I.bk) ((h2 x hn).trans hv) h) hd
/-- a module's constant, a class, a function, as a value -/
theorem pe_glob {x : Str} {v : V} {u : Value} {pos : Pos} (hg : Gl X x) (hm : X.mg x = some u) (r : RelV v u) (hd : (x == ("__debug__" : Str)) = false := by decide) : PE X (.Name x pos) (tC v) :=
  fun _ _ _ H _ I h => ld_glob I hg hm ⟨v, H, I, r, h⟩ hd
theorem pe_bltn {x : Str} {v : V} {u : Value} {pos : Pos} (hg : Gl X x) (hm : X.mg x = none) (hv : bootBuiltins x = some u) (r : RelV v u) (hn : x ≠ "__name__" := by decide) (hd : (x == ("__debug__" : Str)) = false := by decide) : PE X (.Name x pos) (tC v) :=
  fun _ _ _ H _ I h => ld_blt I hg hm hv ⟨v, H, I, r, h⟩ hn hd

/-! ### arithmetic -/
variable {a b : Expr} {ta tb : TE} {pos : Pos}

/-! ### comparisons -/
/-- a comparison as a value, as a test -/
def tB (t : TE) : TT := fun σ H Q => t σ H fun x H1 => ∃ c, x = .bl c ∧ Q c H1
/-- an expression whose value is a bool, as a test -/
theorem pt_val {e : Expr} {t : TE} (h : PE X e t) (he : ∀ whole, isTrue e X.env whole = (do let v ← whole; standAt e.pos; holding [v] (truthy v)) := by intro _; rfl) : PT X e (tB t) := by
  intro pins s σ H Q I hw
  refine isTrue_plain (thn (h pins s σ H _ I hw) fun v s1 ⟨x, H1, I1, r1, q1⟩ => ?_) (he _)
  obtain ⟨d, rfl, q⟩ := q1
  cases r1
  exact wpAny_truthy_bool ⟨H1, I1, q⟩

/-! ### and, or, not -/
variable {tA tB' : TT} {rest : List Expr}
def tAnd (t u : TT) : TT := fun σ H Q => t σ H fun c H1 => if c = true then u σ H1 Q else Q false H1
def tOr (t u : TT) : TT := fun σ H Q => t σ H fun c H1 => if c = true then Q true H1 else u σ H1 Q
def tNot (t : TT) : TT := fun σ H Q => t σ H fun c H1 => Q (!c) H1
theorem pw_and1 (ha : PT X a tA) : PW X (.BoolOp .And [a] pos) tA := by
  intro wh pins s σ H Q I h
  refine isTrue_and (thn (ha pins s σ H Q I h) fun c s1 e => ?_)
  cases c with
  | true => exact isTrue_and_nil e
  | false => exact e
theorem pw_or1 (ha : PT X a tA) : PW X (.BoolOp .Or [a] pos) tA := by
  intro wh pins s σ H Q I h
  refine isTrue_or (thn (ha pins s σ H Q I h) fun c s1 e => ?_)
  cases c with
  | false => exact isTrue_or_nil e
  | true => exact e
theorem pw_and (ha : PT X a tA) (hb : PW X (.BoolOp .And (b :: rest) pos) tB') : PW X (.BoolOp .And (a :: b :: rest) pos) (tAnd tA tB') := by
  intro wh pins s σ H Q I h
  refine isTrue_and (thn (ha pins s σ H _ I h) fun c s1 ⟨H1, I1, q1⟩ => ?_)
  cases c with
  | true => exact hb wh pins s1 σ H1 Q I1 q1
  | false => exact ⟨H1, I1, q1⟩
theorem pw_or (ha : PT X a tA) (hb : PW X (.BoolOp .Or (b :: rest) pos) tB') : PW X (.BoolOp .Or (a :: b :: rest) pos) (tOr tA tB') := by
  intro wh pins s σ H Q I h
  refine isTrue_or (thn (ha pins s σ H _ I h) fun c s1 ⟨H1, I1, q1⟩ => ?_)
  cases c with
  | true => exact ⟨H1, I1, q1⟩
  | false => exact hb wh pins s1 σ H1 Q I1 q1
theorem pt_not (ha : PT X a tA) : PT X (.UnaryOp .Not a pos) (tNot tA) := by
  intro pins s σ H Q I h
  exact isTrue_not (ha pins s σ H (fun c H1 => Q (!c) H1) I h)
/-- .. as values (bools) -/
def tAndV (ta tb : TE) : TE := fun σ H Q => ta σ H fun x H1 => ∃ c, x = .bl c ∧ if c = true then tb σ H1 Q else Q (.bl false) H1
def tNotV (ta : TE) : TE := fun σ H Q => ta σ H fun x H1 => ∃ c, x = .bl c ∧ Q (.bl (!c)) H1
theorem pe_one {op} {t : TE} (h : PE X a t) : PE X (.BoolOp op [a] pos) t := fun pins s σ H Q I hw => BoolOp_one (h pins s σ H Q I hw)
theorem pe_and (ha : PE X a ta) (hb : PE X (.BoolOp .And (b :: rest) pos) tb) : PE X (.BoolOp .And (a :: b :: rest) pos) (tAndV ta tb) := by
  intro pins s σ H Q I h
  refine BoolOp_and (thn (ha pins s σ H _ I h) fun v s1 ⟨x, H1, I1, r1, q1⟩ => ?_)
  obtain ⟨c, rfl, q1⟩ := q1
  cases r1
  refine wpAny_truthy_bool ?_
  cases c with
  | true => exact hb pins s1 σ H1 Q I1 q1
  | false => exact ⟨.bl false, H1, I1, rfl, q1⟩
theorem pe_not (ha : PE X a ta) : PE X (.UnaryOp .Not a pos) (tNotV ta) := by
  intro pins s σ H Q I h
  refine UnaryOp_ (thn (ha pins s σ H _ I h) fun v s1 ⟨x, H1, I1, r1, q1⟩ => ?_)
  obtain ⟨c, rfl, q1⟩ := q1
  cases r1
  exact not_of (wpAny_truthy_bool ⟨.bl (!c), H1, I1, rfl, q1⟩)
/-- a if t else b -/
def tIf (t : TT) (ta tb : TE) : TE := fun σ H Q => t σ H fun c H1 => if c = true then ta σ H1 Q else tb σ H1 Q
theorem pe_ifExp {c : Expr} (hc : PT X c tA) (ha : PE X a ta) (hb : PE X b tb) : PE X (.IfExp c a b pos) (tIf tA ta tb) := by
  intro pins s σ H Q I h
  refine wpAny_IfExp (thn (hc pins s σ H _ I h) fun d s1 ⟨H1, I1, q1⟩ => ?_)
  cases d with
  | true => exact ha pins s1 σ H1 Q I1 q1
  | false => exact hb pins s1 σ H1 Q I1 q1
end
end L2

namespace L2
open PySem PySem.Spec PyProof.Rows

/-! ### a list, a tuple that is read: tracked, frozen, or an object of the module -/
def SqL (K : PySem.W.Frag) (H : Hp) (a : Addr) (xs : List V) : Prop :=
  Rd H a (.lst xs) ∨
    ∃ (o : Obj) (its : Array Value) (n : Nat), K.lookup a = some o ∧ o.cls = .type "list" ∧ o.dict = none ∧ o.data = .seq its n ∧ its.size ≤ sizeLine ∧ Vals xs its.toList
def SqT (K : PySem.W.Frag) (H : Hp) (a : Addr) (xs : List V) : Prop :=
  Rd H a (.tup xs) ∨
    ∃ (o : Obj) (its : Array Value) (n : Nat), K.lookup a = some o ∧ o.cls = .type "tuple" ∧ o.data = .seq its n ∧ its.size ≤ sizeLine ∧ Vals xs its.toList
def absV : Value → Option V
  | .none => some .non
  | .bool b => some (.bl b)
  | .int i _ => some (.int i)
  | .str x _ => some (.str x)
  | .bytes b _ => some (.byt b)
  | .float b _ => some (.flt b)
  | .ref a => some (.ref a)
  | .type n => some (.ty n)
  | _ => none
theorem RelV.abs {x : V} {u : Value} (r : RelV x u) : absV u = some x := by
  cases x with
  | non => cases r; rfl
  | bl _ => cases r; rfl
  | int _ => obtain ⟨t, rfl⟩ := r; rfl
  | str _ => obtain ⟨t, rfl⟩ := r; rfl
  | byt _ => obtain ⟨t, rfl⟩ := r; rfl
  | flt _ => obtain ⟨t, rfl⟩ := r; rfl
  | ref _ => cases r; rfl
  | ty _ => cases r; rfl
theorem RelV.inj {x y : V} {u : Value} (r : RelV x u) (q : RelV y u) : x = y := Option.some.inj (r.abs.symm.trans q.abs)
theorem Vals.inj : ∀ {xs ys : List V} {us : List Value}, Vals xs us → Vals ys us → xs = ys
  | _, _, _, .nil, .nil => rfl
  | _, _, _, .cons r t, .cons r' t' => by rw [r.inj r', Vals.inj t t']
section
variable {X : Cx} {pins : List (Addr × Obj)} {σ : St} {H : Hp} {s : Shared} {a : Addr} {xs ys : List V}
theorem SqL.of {K : PySem.W.Frag} (h : H a = some (.lst xs)) : SqL K H a xs := .inl (.inl h)
theorem SqT.of {K : PySem.W.Frag} (h : H a = some (.tup xs)) : SqT K H a xs := .inl (.inl h)
theorem Inv.list (I : Inv X pins σ H s) (h : SqL X.K H a xs) : ∃ its : List Value, Vals xs its ∧ PlainL s.heap a its.toArray ∧ xs.length ≤ sizeLine := by
  rcases h with h | ⟨o, its, n, hk, hc, hd, hs, hz, r⟩
  · obtain ⟨z, its, n, r, e⟩ := h.ok I.hok
    exact ⟨its, r, ⟨_, n, e, rfl, rfl, rfl⟩, z⟩
  · refine ⟨its.toList, r, ⟨o, n, I.kIn a o hk, hc, hd, by simpa using hs⟩, ?_⟩
    have e := r.length
    simp only [Array.length_toList] at e
    omega
theorem Inv.tuple (I : Inv X pins σ H s) (h : SqT X.K H a xs) : ∃ its : List Value, Vals xs its ∧ IsTup s.heap a its.toArray ∧ xs.length ≤ sizeLine := by
  rcases h with h | ⟨o, its, n, hk, hc, hs, hz, r⟩
  · obtain ⟨z, its, r, p⟩ := h.ok I.hok
    exact ⟨its, r, p, z⟩
  · refine ⟨its.toList, r, ⟨o, I.kIn a o hk, hc, n, by simpa using hs⟩, ?_⟩
    have e := r.length
    simp only [Array.length_toList] at e
    omega
theorem Inv.list_inj (I : Inv X pins σ H s) (h : SqL X.K H a xs) (h' : SqL X.K H a ys) : xs = ys := by
  obtain ⟨its, r, ⟨o, n, e, _, _, d⟩, _⟩ := I.list h
  obtain ⟨its', r', ⟨o', n', e', _, _, d'⟩, _⟩ := I.list h'
  rw [e] at e'; cases e'
  rw [d] at d'
  injection d' with d1 _
  have : its = its' := by simpa using congrArg Array.toList d1
  subst this
  exact r.inj r'
theorem Inv.tuple_inj (I : Inv X pins σ H s) (h : SqT X.K H a xs) (h' : SqT X.K H a ys) : xs = ys := by
  obtain ⟨its, r, ⟨o, e, _, n, d⟩, _⟩ := I.tuple h
  obtain ⟨its', r', ⟨o', e', _, n', d'⟩, _⟩ := I.tuple h'
  rw [e] at e'; cases e'
  rw [d] at d'
  injection d' with d1 _
  have : its = its' := by simpa using congrArg Array.toList d1
  subst this
  exact r.inj r'
end

/-! ### another wish about exceptions -/
abbrev Cx.wish (X : Cx) (E : Value → Shared → Prop) : Cx := { X with xe := E }
/-- no exception leaves -/
abbrev Cx.nox (X : Cx) : Cx := X.wish fun _ _ => False
theorem Cx.Ok.wish {X : Cx} (ok : X.Ok) (E : Value → Shared → Prop) : (X.wish E).Ok :=
  ⟨ok.mod, ok.kind, ok.glob, ok.blt, ok.above, ok.inj, ok.has, ok.cab, ok.hd, ok.frames, ok.stk, ok.exf, ok.bs, ok.bsz, ok.noex, ok.exfs, ok.funs, ok.frf⟩
theorem Cx.Ok.unwish {X : Cx} {E : Value → Shared → Prop} (ok : (X.wish E).Ok) : X.Ok :=
  ⟨ok.mod, ok.kind, ok.glob, ok.blt, ok.above, ok.inj, ok.has, ok.cab, ok.hd, ok.frames, ok.stk, ok.exf, ok.bs, ok.bsz, ok.noex, ok.exfs, ok.funs, ok.frf⟩
section
variable {X : Cx} {pins : List (Addr × Obj)} {σ : St} {H : Hp} {s : Shared} {E : Value → Shared → Prop}
theorem Inv.wish (I : Inv X pins σ H s) (E : Value → Shared → Prop) : Inv (X.wish E) pins σ H s := ⟨I.ok.wish E, I.os, I.bare, I.base, I.loc, I.cell, I.free, I.freeC, I.pin, I.hok, I.len⟩
theorem Inv.unwish (I : Inv (X.wish E) pins σ H s) : Inv X pins σ H s := ⟨I.ok.unwish, I.os, I.bare, I.base, I.loc, I.cell, I.free, I.freeC, I.pin, I.hok, I.len⟩
theorem SP.unwish {D : Ends} {f : Flow} {s' : Shared} (h : SP (X.wish E) pins D f s') : SP X pins D f s' := by
  cases f with
  | next => obtain ⟨σ', H', I, q⟩ := h; exact ⟨σ', H', I.unwish, q⟩
  | brk => obtain ⟨σ', H', I, q⟩ := h; exact ⟨σ', H', I.unwish, q⟩
  | cont => obtain ⟨σ', H', I, q⟩ := h; exact ⟨σ', H', I.unwish, q⟩
  | ret u => obtain ⟨v, σ', H', I, r, q⟩ := h; exact ⟨v, σ', H', I.unwish, r, q⟩
theorem PSs.nox {st : List Stmt} {t : TS} (h : PSs X.nox st t) : PSs X st t := fun pins s σ H D I hw =>
  wpAny_mono (h pins s σ H D (I.wish _) hw) (fun _ _ q => q.unwish) fun _ _ z => False.elim z
end

/-! ### blocks and small statements -/
section
variable {X : Cx} {st : Stmt} {rest : List Stmt} {t u : TS} {e : Expr} {te : TE} {pos : Pos}
def tNext : TS := fun D σ H => D.nx σ H
def tSeq (t u : TS) : TS := fun D σ H => t { D with nx := u D } σ H
theorem pss_nil : PSs X [] tNext := fun _ _ σ H _ I h => wpAny_execs_nil ⟨σ, H, I, h⟩
theorem pss_cons (h1 : PS X st t) (h2 : PSs X rest u) : PSs X (st :: rest) (tSeq t u) := by
  intro pins s σ H D I h
  refine wpAny_execs_cons (thn (h1 pins s σ H { D with nx := u D } I h) fun f s1 q => ?_)
  cases f with
  | next =>
    obtain ⟨σ', H', I', q⟩ := q
    exact h2 pins s1 σ' H' D I' q
  | ret v => exact q
  | brk => exact q
  | cont => exact q
theorem pss_one (h1 : PS X st t) : PSs X [st] t := by
  intro pins s σ H D I h
  refine wpAny_execs_cons (thn (h1 pins s σ H D I h) fun f s1 q => ?_)
  cases f with
  | next => exact wpAny_execs_nil q
  | ret v => exact q
  | brk => exact q
  | cont => exact q
/-- in a def's body nothing is shown -/
theorem Inv.quiet {pins : List (Addr × Obj)} {σ : St} {H : Hp} {s : Shared} (I : Inv X pins σ H s) : interactive X.env = false := by simp [interactive, I.ok.kind]
/-- an expression whose value is dropped -/
def tDrop (te : TE) : TS := fun D σ H => te σ H fun _ H1 => D.nx σ H1
theorem ps_expr (he : PE X e te) (hs : swapsWith e none pos.line X.env = pure false := by rfl) : PS X (.Expr e pos) (tDrop te) := by
  intro pins s σ H D I h
  exact wpAny_Expr_any (thn (he pins s σ H _ I h) fun v s1 ⟨x, H1, I1, r1, q1⟩ => ⟨σ, H1, I1, q1⟩) I.quiet hs
def tRet (te : TE) : TS := fun D σ H => te σ H D.rt
theorem ps_ret (he : PE X e te) : PS X (.Return (some e) pos) (tRet te) := by
  intro pins s σ H D I h
  exact wpAny_Return_some (thn (he pins s σ H _ I h) fun v s1 ⟨x, H1, I1, r1, q1⟩ => ⟨x, σ, H1, I1, r1, q1⟩)
def tRetN : TS := fun D _ H => D.rt .non H
theorem ps_retN : PS X (.Return none pos) tRetN := fun _ _ σ H _ I h => wpAny_Return_none ⟨.non, σ, H, I, rfl, h⟩
def tIfS (c : TT) (t u : TS) : TS := fun D σ H => c σ H fun b H1 => if b = true then t D σ H1 else u D σ H1
theorem ps_if {c : Expr} {a b : List Stmt} {tc : TT} (hc : PT X c tc) (ha : PSs X a t) (hb : PSs X b u) : PS X (.If c a b pos) (tIfS tc t u) := by
  intro pins s σ H D I h
  refine wpAny_If (thn (hc pins s σ H _ I h) fun d s1 ⟨H1, I1, q1⟩ => ?_)
  cases d with
  | true => exact ha pins s1 σ H1 D I1 q1
  | false => exact hb pins s1 σ H1 D I1 q1
end

/-! ### targets -/
abbrev TG := V → St → Hp → (St → Hp → Prop) → Prop
abbrev TGs := List V → St → Hp → (St → Hp → Prop) → Prop
def PG (X : Cx) (target : Expr) (t : TG) : Prop :=
  ∀ (pins : List (Addr × Obj)) (s : Shared) (σ : St) (H : Hp) (v : V) (u : Value) (Q : St → Hp → Prop), Inv X pins σ H s → RelV v u → t v σ H Q →
    wpAny (model X.prog X.w) X.A (assign target X.env u) (fun _ s' => ∃ σ' H', Inv X pins σ' H' s' ∧ Q σ' H') X.xe s
/-- several targets, one after another -/
def PGs (X : Cx) (ts : List Expr) (t : TGs) : Prop :=
  ∀ (pins : List (Addr × Obj)) (s : Shared) (σ : St) (H : Hp) (vs : List V) (us : List Value) (Q : St → Hp → Prop), Inv X pins σ H s → Vals vs us → t vs σ H Q →
    wpAny (model X.prog X.w) X.A (assignInOrder ((assignEach ts X.env).map (·.2)) us) (fun _ s' => ∃ σ' H', Inv X pins σ' H' s' ∧ Q σ' H') X.xe s
/-- o[i] = v, by values -/
abbrev TSet := V → V → V → Hp → (Hp → Prop) → Prop
def PSet (X : Cx) (t : TSet) : Prop :=
  ∀ (pins : List (Addr × Obj)) (s : Shared) (σ : St) (H : Hp) (o i v : V) (ov iv u : Value) (Q : Hp → Prop), Inv X pins σ H s → RelV o ov → RelV i iv → RelV v u → t o i v H Q →
    wpAny (model X.prog X.w) X.A (setItem ov iv u) (fun _ s' => ∃ H', Inv X pins σ H' s' ∧ Q H') X.xe s
/-- a op= b, by values -/
abbrev TIp := V → V → Hp → VK → Prop
def PIp (X : Cx) (op : Operator) (t : TIp) : Prop :=
  ∀ (pins : List (Addr × Obj)) (s : Shared) (σ : St) (H : Hp) (x y : V) (v u : Value) (Q : VK), Inv X pins σ H s → RelV x v → RelV y u → t x y H Q →
    wpAny (model X.prog X.w) X.A (inplaceOp op v u) (EP X pins σ Q) X.xe s
section
variable {X : Cx} {pos : Pos}
def gName (i : Nat) : TG := fun v σ H Q => Q (σ.set i (some v)) H
theorem pg_name {i : Nat} {x : Str} (hN : X.N.Nodup) (hi : X.N[i]? = some x) (hx : Loc X.env.scope x) (hf : X.fn x = true ∨ X.env.scope.names.lookup x = some .local := by first | exact .inl rfl | exact .inr rfl | assumption) : PG X (.Name x pos) (gName i) := by
  intro pins s σ H v u Q I r h
  exact wpAny_assign_Name (store_ok I hN hi hx r (fun s' I' => ⟨_, H, I', h⟩) hf)
def gNil : TGs := fun vs σ H Q => vs = [] ∧ Q σ H
def gCons (t : TG) (u : TGs) : TGs := fun vs σ H Q => ∃ v r, vs = v :: r ∧ t v σ H fun σ' H' => u r σ' H' Q
theorem pgs_nil : PGs X [] gNil := by
  intro pins s σ H vs us Q I r h
  obtain ⟨e, h⟩ := h
  subst e
  cases r
  exact assignInOrder_nil ⟨σ, H, I, h⟩
theorem pgs_cons {e : Expr} {es : List Expr} {t : TG} {u : TGs} (h1 : PG X e t) (h2 : PGs X es u)
    (hs : (assignEach (e :: es) X.env).map (·.2) = assign e X.env :: (assignEach es X.env).map (·.2) := by rfl) : PGs X (e :: es) (gCons t u) := by
  intro pins s σ H vs us Q I r h
  obtain ⟨v, vr, e1, h⟩ := h
  subst e1
  cases r with
  | cons r rr =>
    rw [hs]
    refine assignInOrder_cons (thn (h1 pins s σ H _ _ _ I r h) fun _ s1 ⟨σ1, H1, I1, q1⟩ => ?_)
    exact h2 pins s1 σ1 H1 _ _ Q I1 rr q1
/-- (a, b, ..) = a tuple of that length -/
def gTup (K : PySem.W.Frag) (n : Nat) (t : TGs) : TG := fun v σ H Q => ∃ a xs, v = .ref a ∧ SqT K H a xs ∧ xs.length = n ∧ t xs σ H Q
theorem pg_tup {es : List Expr} {k : Nat} {t : TGs} {n : Nat} (hc : X.calm = true) (h : PGs X es t)
    (hn : (assignEach es X.env).length = n := by rfl) (hst : (assignEach es X.env).findIdx? (·.1) = none := by rfl) : PG X (.Tuple es k pos) (gTup X.K n t) := by
  intro pins s σ H v u Q I r hw
  obtain ⟨a, xs, e1, hq, hl, hw⟩ := hw
  subst e1
  cases r
  obtain ⟨its, rv, ht, hz⟩ := I.tuple hq
  refine assign_Tuple_tuple (I.ok.hd hc) ht (by simp [hn, ← hl, rv.length]) hst fun h' hx => ?_
  have I1 : Inv X pins σ H { s with heap := h' } := I.kept (t' := s.toks) fun b o e => hx b o (Nat.ne_of_lt (Heap.lt_size e)) e
  exact h pins _ σ H xs _ Q I1 (by simpa using rv) hw
/-- o[i] = .. -/
def gSub (to ti : TE) (t : TSet) : TG := fun v σ H Q => to σ H fun o H1 => ti σ H1 fun i H2 => t o i v H2 fun H3 => Q σ H3
theorem pg_sub {o i : Expr} {to ti : TE} {t : TSet} (ho : PE X o to) (hi : PE X i ti) (hs : PSet X t)
    (ha : ∀ v, assign (.Subscript o i pos) X.env v = (do
      let ov ← holding [v] (eval o X.env)
      let iv ← holding [v, ov] (eval i X.env)
      standAt pos
      holding [v, ov, iv] (setItem ov iv v)
      release [v, ov, iv] []) := by intro _; rfl) : PG X (.Subscript o i pos) (gSub to ti t) := by
  intro pins s σ H v u Q I r h
  rw [ha]
  refine wpAny_bind (wpAny_holding (thn (ho pins s σ H _ I h) fun ov s1 ⟨x, H1, I1, r1, q1⟩ => ?_))
  refine wpAny_bind (wpAny_holding (thn (hi pins s1 σ H1 _ I1 q1) fun iv s2 ⟨y, H2, I2, r2, q2⟩ => ?_))
  refine wpAny_bind (wpAny_standAt (wpAny_bind (wpAny_holding (thn (hs pins s2 σ H2 x y v ov iv u _ I2 r1 r2 r q2) fun _ s3 ⟨H3, I3, q3⟩ => ?_))))
  exact wpAny_release ⟨σ, H3, I3, q3⟩
/-- target = value -/
def tAsg (te : TE) (g : TG) : TS := fun D σ H => te σ H fun x H1 => g x σ H1 D.nx
theorem ps_asg {tg e : Expr} {te : TE} {g : TG} (he : PE X e te) (hg : PG X tg g) (hs : swapsWithSole [tg] e pos.line X.env = pure false := by rfl) (hw : swappedStores [tg] e X.env = pure none := by rfl)
    (h1 : (assignEach [tg] X.env).map (·.2) = [assign tg X.env] := by rfl) : PS X (.Assign [tg] e pos) (tAsg te g) := by
  intro pins s σ H D I h
  refine wpAny_Assign_stores (thn (he pins s σ H _ I h) fun v s1 ⟨x, H1, I1, r1, q1⟩ => ?_) hs hw
  rw [h1]
  exact thn (hg pins s1 σ H1 x v _ I1 r1 q1) fun _ s2 q => q
/-- name = value -/
theorem ps_set {i : Nat} {x : Str} {e : Expr} {te : TE} {pos' : Pos} (hN : X.N.Nodup) (hi : X.N[i]? = some x) (hx : Loc X.env.scope x) (he : PE X e te) (hs : swapsWith e (some (.Name x pos')) pos.line X.env = pure false := by rfl) (hf : X.fn x = true ∨ X.env.scope.names.lookup x = some .local := by first | exact .inl rfl | exact .inr rfl | assumption) :
    PS X (.Assign [.Name x pos'] e pos) (tAsg te (gName i)) := by
  intro pins s σ H D I h
  refine wpAny_Assign_Name (thn (he pins s σ H _ I h) fun v s1 ⟨y, H1, I1, r1, q1⟩ => ?_) hs
  exact store_ok I1 hN hi hx r1 (fun s2 I2 => ⟨_, H1, I2, q1⟩) hf
/-- a, b = x, y with plain local names: stored from the right; the pair itself is not tracked (the opening rows as in PyProof/Rows/TupAssign.lean:23) -/
def tPar (i j : Nat) (ta : TA) : TS := fun D σ H => ta σ H fun vs H1 => ∃ v w, vs = [v, w] ∧ D.nx ((σ.set i (some v)).set j (some w)) H1
theorem ps_par {i j : Nat} {x y : Str} {a b : Expr} {ta : TA} {px py pt : Pos} {kt k2 pt2} (hc : X.calm = true) (hN : X.N.Nodup) (hi : X.N[i]? = some x) (hj : X.N[j]? = some y) (hij : i ≠ j)
    (hx : X.env.scope.names.lookup x = some .local) (hy : X.env.scope.names.lookup y = some .local) (ha : PA X [a, b] ta)
    (hw : swappedStores [.Tuple [.Name x px, .Name y py] kt pt] (.Tuple [a, b] k2 pt2) X.env = pure (some [x, y]))
    (hs : swapsWithSole [.Tuple [.Name x px, .Name y py] kt pt] (.Tuple [a, b] k2 pt2) pos.line X.env = pure false := by rfl) :
    PS X (.Assign [.Tuple [.Name x px, .Name y py] kt pt] (.Tuple [a, b] k2 pt2) pos) (tPar i j ta) := by
  intro pins s σ H D I h
  rw [exec_Assign_arm]
  refine wpAny_bind (wpAny_standAt ?_)
  rw [hs]
  refine wpAny_bind (wpAny_pure ?_)
  rw [if_neg (by decide)]
  refine wpAny_bind (Tuple_ (thn (ha _ pins s σ H _ I h) fun us s1 ⟨vs, H1, I1, r1, q1⟩ => ?_))
  obtain ⟨v, w, e1, q1⟩ := q1
  subst e1
  obtain ⟨u1, u2, rfl, rv, rw'⟩ : ∃ u1 u2, us = [u1, u2] ∧ RelV v u1 ∧ RelV w u2 := by
    cases r1 with
    | cons p q =>
      cases q with
      | cons p' q' =>
        cases q'
        exact ⟨_, _, rfl, p, p'⟩
  refine wpAny_newObj_type ?_ (by show 2 ≤ sizeLine; decide)
  have I2 : Inv X pins σ H1 { s1 with heap := s1.heap.push { cls := .type "tuple", data := .seq [u1, u2].toArray } } := I1.kept (t' := s1.toks) fun b o e => Heap.get?_push_of_some _ e
  rw [hw]
  refine wpAny_bind (wpAny_pure ?_)
  show wpAny (model X.prog X.w) X.A (do rule "assign.swapped-stores"; let items ← unpackItems (.ref s1.heap.objs.size) 2 none; assignInOrder [fun v => bindName X.env y v, fun v => bindName X.env x v] items.reverse; pure Flow.next) _ _ _
  refine wpAny_bind (wpAny_rule (wpAny_bind (unpackItems_tuple (items := #[u1, u2]) (I.ok.hd hc) (IsTup.new s1.heap _) fun h' hx' => ?_)))
  have I3 := I2.kept (h' := h') (t' := s1.toks) fun b o e => hx' b o (Nat.ne_of_lt (Heap.lt_size e)) e
  show wpAny _ _ (assignInOrder [fun v => bindName X.env y v, fun v => bindName X.env x v] [u2, u1] >>= fun _ => pure Flow.next) _ _ _
  refine wpAny_bind (assignInOrder_cons (wpAny_bindName (store_ok I3 hN hj (.inl hy) rw' (fun s2 I4 => ?_) (.inr hy))))
  refine assignInOrder_cons (wpAny_bindName (store_ok I4 hN hi (.inl hx) rv (fun s3 I5 => assignInOrder_nil (wpAny_pure ?_)) (.inr hx)))
  rw [List.set_comm _ _ (Ne.symm hij)] at I5
  exact ⟨_, H1, I5, q1⟩
/-- o[i] op= e -/
def tAugS (to ti te : TE) (tget : V → V → Hp → VK → Prop) (tip : TIp) (tset : TSet) : TS := fun D σ H => to σ H fun o H1 => ti σ H1 fun i H2 => tget o i H2 fun x H3 => te σ H3 fun y H4 => tip x y H4 fun z H5 => tset o i z H5 fun H6 => D.nx σ H6
/-- o[i], by values -/
def PGet (X : Cx) (t : V → V → Hp → VK → Prop) : Prop :=
  ∀ (pins : List (Addr × Obj)) (s : Shared) (σ : St) (H : Hp) (o i : V) (ov iv : Value) (Q : VK), Inv X pins σ H s → RelV o ov → RelV i iv → t o i H Q →
    wpAny (model X.prog X.w) X.A (getItem ov iv) (EP X pins σ Q) X.xe s
theorem ps_augS {o i e : Expr} {to ti te : TE} {tget : V → V → Hp → VK → Prop} {tip : TIp} {tset : TSet} {op : Operator} {tpos : Pos} (ho : PE X o to) (hi : PE X i ti) (hg : PGet X tget) (he : PE X e te) (hp : PIp X op tip) (hs : PSet X tset)
    (ha : ∀ ov iv new, augStore i ov iv new = (do holding [new, ov, iv] (setItem ov iv new); release [new, ov, iv] []; pure .next) := by intros; rfl) : PS X (.AugAssign (.Subscript o i tpos) op e pos) (tAugS to ti te tget tip tset) := by
  intro pins s σ H D I h
  refine wpAny_AugAssign_SubscriptAny (thn (ho pins s σ H _ I h) fun ov s1 ⟨x1, H1, I1, r1, q1⟩ => ?_) ha
  refine thn (hi pins s1 σ H1 _ I1 q1) fun iv s2 ⟨x2, H2, I2, r2, q2⟩ => ?_
  refine thn (hg pins s2 σ H2 x1 x2 ov iv _ I2 r1 r2 q2) fun old s3 ⟨x3, H3, I3, r3, q3⟩ => ?_
  refine thn (he pins s3 σ H3 _ I3 q3) fun v s4 ⟨x4, H4, I4, r4, q4⟩ => ?_
  refine thn (hp pins s4 σ H4 x3 x4 old v _ I4 r3 r4 q4) fun new s5 ⟨x5, H5, I5, r5, q5⟩ => ?_
  exact thn (hs pins s5 σ H5 x1 x2 x5 ov iv new _ I5 r1 r2 r5 q5) fun _ s6 ⟨H6, I6, q6⟩ => ⟨σ, H6, I6, q6⟩
/-- ints -/
def ipI (f : Int → Int → Int) : TIp := fun x y H Q => ∃ i j, x = .int i ∧ y = .int j ∧ Q (.int (f i j)) H
theorem ip_add : PIp X .Add (ipI fun i j => i + j) := by
  intro pins s σ H x y v u Q I r1 r2 h
  obtain ⟨i, j, e1, e2, q⟩ := h
  subst e1; subst e2
  obtain ⟨t, rfl⟩ := r1
  obtain ⟨t', rfl⟩ := r2
  exact iadd_int ⟨.int _, H, I.tok _, ⟨_, rfl⟩, q⟩
theorem ip_sub : PIp X .Sub (ipI fun i j => i - j) := by
  intro pins s σ H x y v u Q I r1 r2 h
  obtain ⟨i, j, e1, e2, q⟩ := h
  subst e1; subst e2
  obtain ⟨t, rfl⟩ := r1
  obtain ⟨t', rfl⟩ := r2
  exact isub_int ⟨.int _, H, I.tok _, ⟨_, rfl⟩, q⟩
end

/-! ### while -/
section
variable {X : Cx} {pos : Pos}
/-- the invariant W with its measure -/
def tWhile (c : TT) (tb : TS) : TS := fun D σ H => ∃ W : Nat → St → Hp → Prop, (∃ m, W m σ H) ∧ ∀ m σ H, W m σ H →
  c σ H fun b H1 => if b = true then ∃ N : St → Hp → Prop, (∀ σ' H', N σ' H' → ∃ m', m' < m ∧ W m' σ' H') ∧ tb { D with nx := N, ct := N, bk := D.nx } σ H1 else D.nx σ H1
theorem ps_while {c : Expr} {body : List Stmt} {tc : TT} {tb : TS} (hp : PassesOwn (model X.prog X.w) X.A X.env X.xe) (hc : PT X c tc) (hb : PSs X body tb) : PS X (.While c body [] pos) (tWhile tc tb) := by
  intro pins s σ H D I h
  obtain ⟨W, ⟨m0, w0⟩, turn⟩ := h
  refine wpAny_While (codeAny_whileLoop (fun n s' => ∃ σ' H', Inv X pins σ' H' s' ∧ W n σ' H') ?_ m0 ⟨σ, H, I, w0⟩)
  rintro n s1 ⟨σ1, H1, I1, w1⟩
  refine wpAny_passesOwn hp (thn (hc pins s1 σ1 H1 _ I1 (turn n σ1 H1 w1)) fun b s2 ⟨H2, I2, q2⟩ => ?_)
  cases b with
  | true =>
    obtain ⟨N, hN, q2⟩ := q2
    rw [if_pos rfl]
    refine wpAny_passesOwn hp (thn (hb pins s2 σ1 H2 _ I2 q2) fun f s3 q3 => ?_)
    cases f with
    | next =>
      obtain ⟨σ3, H3, I3, n3⟩ := q3
      obtain ⟨m', hm, w3⟩ := hN σ3 H3 n3
      exact ⟨m', hm, σ3, H3, I3, w3⟩
    | cont =>
      obtain ⟨σ3, H3, I3, n3⟩ := q3
      obtain ⟨m', hm, w3⟩ := hN σ3 H3 n3
      exact ⟨m', hm, σ3, H3, I3, w3⟩
    | brk => exact q3
    | ret v => exact q3
  | false =>
    rw [if_neg Bool.false_ne_true]
    exact wpAny_execs_nil ⟨σ1, H2, I2, q2⟩
end

/-! ### what a loop or a comprehension walks -/
/-- at turn i: it yields x (the heap may grow), or it stops -/
structure It where
  go : Nat → Hp → Prop
  yld : Nat → Hp → V → Hp → Prop
  stop : Nat → Hp → Prop
/-- the iterator's own objects may turn: they are not the frame's, not pinned, younger than the entry (or a comprehension's own) -/
def FpOk (X : Cx) (pins : List (Addr × Obj)) (H : Hp) (b : Addr) : Prop :=
  H b = none ∧ b ≠ X.env.locals ∧ b ∉ X.fs ∧ (b ∈ X.ex ∨ X.s₀.heap.objs.size ≤ b) ∧ (∀ x c, X.env.cells.lookup x = some c → c ≠ b) ∧ ∀ p ∈ X.pn ++ pins, p.1 ≠ b
theorem Inv.fpOk {X : Cx} {pins : List (Addr × Obj)} {σ : St} {H H' : Hp} {s : Shared} {b : Addr} (I : Inv X pins σ H s) (hb : s.heap.objs.size ≤ b) (hn : H' b = none) : FpOk X pins H' b := by
  refine ⟨hn, Nat.ne_of_gt (Nat.lt_of_lt_of_le I.lt hb), I.nofs hb, .inr (Nat.le_trans I.sz hb), fun x c e z => ?_, fun p hp z => ?_⟩
  · obtain ⟨v, q⟩ := I.cell x c e
    exact absurd (Nat.lt_of_lt_of_le q.lt (by rw [z]; exact hb)) (Nat.lt_irrefl _)
  · exact absurd (Nat.lt_of_lt_of_le (Heap.lt_size (I.pin p hp).1) (by rw [z]; exact hb)) (Nat.lt_irrefl _)
structure Turn (P : Program) (w : World) (K : PySem.W.Frag) (tg : Expr) (J : It) (fp : List Addr) (it : Addr) (tn : Nat → Heap → Prop) : Prop where
  mem : it ∈ fp
  obj : ∀ i h, tn i h → ∀ b ∈ fp, ∃ o, h.get? b = some o ∧ ∀ v, o.data ≠ .cell v
  keep : ∀ i h h', tn i h → (∀ b ∈ fp, ∀ o, h.get? b = some o → h'.get? b = some o) → tn i h'
  item : ∀ (X : Cx), X.prog = P → X.w = w → X.K = K → X.calm = true → ∀ (i : Nat) (pins : List (Addr × Obj)) (s : Shared) (σ : St) (H : Hp) (E : Value → Shared → Prop), Inv X pins σ H s → (∀ b ∈ fp, FpOk X pins H b) → tn i s.heap → J.go i H →
    wpAny (model P w) X.A (pyNext (.ref it)) (fun r s1 => ∃ u, r = some u ∧
      wpAny (model P w) X.A (letOwnedTupleGo tg (.ref it) u) (fun _ s2 => ∃ x H', Inv X pins σ H' s2 ∧ RelV x u ∧ J.yld i H x H' ∧ tn (i + 1) s2.heap ∧ ∀ b ∈ fp, H' b = none) E s1) E s
  done : ∀ (X : Cx), X.prog = P → X.w = w → X.K = K → X.calm = true → ∀ (i : Nat) (pins : List (Addr × Obj)) (s : Shared) (σ : St) (H : Hp) (E : Value → Shared → Prop), Inv X pins σ H s → (∀ b ∈ fp, FpOk X pins H b) → tn i s.heap → J.stop i H →
    wpAny (model P w) X.A (pyNext (.ref it)) (fun r s1 => r = none ∧ Inv X pins σ H s1) E s
  self : ∀ (A : Around) (i : Nat) (s : Shared) (Q : Value → Shared → Prop) (E : Value → Shared → Prop), tn i s.heap → Q (.ref it) s → wpAny (model P w) A (pyIter (.ref it)) Q E s
abbrev TI := St → Hp → (It → Hp → Prop) → Prop
/-- an iterator has come -/
def PIE (X : Cx) (pins : List (Addr × Obj)) (σ : St) (tg : Expr) (R : It → Hp → Prop) (itv : Value) (s2 : Shared) : Prop :=
  ∃ (it : Addr) (fp : List Addr) (tn : Nat → Heap → Prop) (J : It) (H' : Hp), itv = .ref it ∧ Inv X pins σ H' s2 ∧ Turn X.prog X.w X.K tg J fp it tn ∧ tn 0 s2.heap ∧ (∀ b ∈ fp, FpOk X pins H' b) ∧ R J H'
def PI (X : Cx) (tg iter : Expr) (wi : TI) : Prop :=
  ∀ (pins : List (Addr × Obj)) (s : Shared) (σ : St) (H : Hp) (R : It → Hp → Prop), Inv X pins σ H s → wi σ H R →
    wpAny (model X.prog X.w) X.A (eval iter X.env) (fun v s1 => wpAny (model X.prog X.w) X.A (pyIter v) (PIE X pins σ tg R) X.xe s1) X.xe s

/-- the step ahead of the store is nothing for an iterator that keeps no tuple -/
theorem go_of {M : Model} {A : Around} {E : Value → Shared → Prop} {s : Shared} {tg : Expr} {it : Addr} {u : Value} {o : Obj} {n : String} {vs : Array Value} {Q : Unit → Shared → Prop} (ho : s.heap.get? it = some o) (hc : o.cls = .type n) (hd : o.data = .fields vs)
    (hn : ["enumerate", "zip", "dict_itemiterator", "dict_reverseitemiterator", "odict_iterator", "itertools.zip_longest", "itertools.pairwise"].contains n = false) (hQ : Q () s) : wpAny M A (letOwnedTupleGo tg (.ref it) u) Q E s := by
  unfold letOwnedTupleGo
  cases tg <;> first
    | exact wpAny_pure hQ
    | (cases u <;> first
        | exact wpAny_pure hQ
        | (refine wpAny_bind (wpAny_load ho ?_)
           rw [hc, hd]
           show wpAny M A (if (["enumerate", "zip", "dict_itemiterator", "dict_reverseitemiterator", "odict_iterator", "itertools.zip_longest", "itertools.pairwise"].contains n && vs[0]? == some (rawInt _)) = true then _ else _) Q E s
           rw [if_neg (by intro h; rw [hn, Bool.false_and] at h; cases h)]
           exact wpAny_pure hQ))

/-- the list at a, as it stands at each turn (a loop may append to it) -/
def Itl (K : PySem.W.Frag) (a : Addr) : It :=
  ⟨fun i H => ∃ xs x, SqL K H a xs ∧ xs[i]? = some x, fun i H x H' => H' = H ∧ ∀ xs, SqL K H a xs → xs[i]? = some x, fun i H => ∃ xs, SqL K H a xs ∧ xs.length ≤ i⟩
def Itt (K : PySem.W.Frag) (a : Addr) : It :=
  ⟨fun i H => ∃ xs x, SqT K H a xs ∧ xs[i]? = some x, fun i H x H' => H' = H ∧ ∀ xs, SqT K H a xs → xs[i]? = some x, fun i H => ∃ xs, SqT K H a xs ∧ xs.length ≤ i⟩
/-- lo, lo + 1, .. (n of them) -/
def Itr (lo : Int) (n : Nat) : It := ⟨fun i _ => i < n, fun i H x H' => H' = H ∧ x = .int (lo + i), fun i _ => n ≤ i⟩
theorem turn_list {P : Program} {w : World} {K : PySem.W.Frag} {tg : Expr} (a it : Addr) : Turn P w K tg (Itl K a) [it] it (fun i h => h.IsListIter it a i) where
  mem := by simp
  obj := fun i h st b hb => by
    have e : b = it := by simpa using hb
    subst e
    obtain ⟨o, e, c, d⟩ := st
    exact ⟨o, e, fun v z => by rw [d] at z; cases z⟩
  keep := fun i h h' st k => st.at fun o e => k it (by simp) o e
  item := by
    intro X hP hw hK hc i pins s σ H E I hf st hg
    subst hP hw hK
    obtain ⟨xs, x, hq, hx⟩ := hg
    obtain ⟨its, rv, p, hz⟩ := I.list hq
    obtain ⟨u, hu, ru⟩ := rv.get hx
    obtain ⟨f0, f1, f2, f3, f4, f5⟩ := hf it (by simp)
    refine wpAny_pyNext_list_item st p.isList (x := u) (by simpa using hu) fun h' st' sb => ?_
    have I1 : Inv X pins σ H { s with heap := h' } := I.turned (t' := s.toks) (fun b o hb e => (sb.2 b hb).trans e) f0 f1 f3 f4 f5
    obtain ⟨o, e, c, d⟩ := id st'
    exact ⟨u, rfl, go_of (s := { s with heap := h' }) e c d (by decide) ⟨x, H, I1, ru, ⟨rfl, fun ys hy => by rw [I.list_inj hy hq]; exact hx⟩, st', fun b hb => (hf b hb).1⟩⟩
  done := by
    intro X hP hw hK hc i pins s σ H E I hf st hg
    subst hP hw hK
    obtain ⟨xs, hq, hx⟩ := hg
    obtain ⟨its, rv, p, hz⟩ := I.list hq
    obtain ⟨f0, f1, f2, f3, f4, f5⟩ := hf it (by simp)
    have hl := rv.length
    exact wpAny_pyNext_list_end (I.ok.hd hc) st p.isList (by simp; omega) fun h' eb => ⟨rfl, I.turned (t' := s.toks) (fun b o hb e => eb b o hb e) f0 f1 f3 f4 f5⟩
  self := fun _ _ _ _ _ st h => wpAny_pyIter_listiter st h
theorem turn_tuple {P : Program} {w : World} {K : PySem.W.Frag} {tg : Expr} (a it : Addr) : Turn P w K tg (Itt K a) [it] it (fun i h => h.IsTupleIter it a i) where
  mem := by simp
  obj := fun i h st b hb => by
    have e : b = it := by simpa using hb
    subst e
    obtain ⟨o, e, c, d⟩ := st
    exact ⟨o, e, fun v z => by rw [d] at z; cases z⟩
  keep := fun i h h' st k => st.at fun o e => k it (by simp) o e
  item := by
    intro X hP hw hK hc i pins s σ H E I hf st hg
    subst hP hw hK
    obtain ⟨xs, x, hq, hx⟩ := hg
    obtain ⟨its, rv, p, hz⟩ := I.tuple hq
    obtain ⟨u, hu, ru⟩ := rv.get hx
    obtain ⟨f0, f1, f2, f3, f4, f5⟩ := hf it (by simp)
    refine wpAny_pyNext_tuple_item st (show s.heap.IsTuple a its.toArray from p) (x := u) (by simpa using hu) fun h' st' sb => ?_
    have I1 : Inv X pins σ H { s with heap := h' } := I.turned (t' := s.toks) (fun b o hb e => (sb.2 b hb).trans e) f0 f1 f3 f4 f5
    obtain ⟨o, e, c, d⟩ := id st'
    exact ⟨u, rfl, go_of (s := { s with heap := h' }) e c d (by decide) ⟨x, H, I1, ru, ⟨rfl, fun ys hy => by rw [I.tuple_inj hy hq]; exact hx⟩, st', fun b hb => (hf b hb).1⟩⟩
  done := by
    intro X hP hw hK hc i pins s σ H E I hf st hg
    subst hP hw hK
    obtain ⟨xs, hq, hx⟩ := hg
    obtain ⟨its, rv, p, hz⟩ := I.tuple hq
    obtain ⟨f0, f1, f2, f3, f4, f5⟩ := hf it (by simp)
    have hl := rv.length
    exact wpAny_pyNext_tuple_end (I.ok.hd hc) st (show s.heap.IsTuple a its.toArray from p) (by simp; omega) fun h' eb => ⟨rfl, I.turned (t' := s.toks) (fun b o hb e => eb b o hb e) f0 f1 f3 f4 f5⟩
  self := fun _ _ _ _ _ st h => wpAny_pyIter_tupleiter st h
theorem turn_range {P : Program} {w : World} {K : PySem.W.Frag} {tg : Expr} (it : Addr) (lo : Int) (n : Nat) : Turn P w K tg (Itr lo n) [it] it (fun i h => IsRangeIter h it (lo + (i : Nat) * 1) ((n : Int) - (i : Nat)) 1) where
  mem := by simp
  obj := fun i h st b hb => by
    have e : b = it := by simpa using hb
    subst e
    exact ⟨_, st, fun v z => by
      have z' : Data.fields _ = Data.cell v := z
      cases z'⟩
  keep := fun i h h' st k => k it (by simp) _ st
  item := by
    intro X hP hw hK hc i pins s σ H E I hf st hg
    subst hP hw hK
    obtain ⟨f0, f1, f2, f3, f4, f5⟩ := hf it (by simp)
    have W := Walks.range (prog := X.prog) (w := X.w) (I.ok.hd hc) it lo 1 n
    refine W.item i s _ _ hg st fun v h' tk hv st' kk => ?_
    obtain ⟨t, rfl⟩ := hv
    have I1 : Inv X pins σ H { s with heap := h', toks := tk } := I.turned (fun b o hb e => kk b o (by simpa using hb) e) f0 f1 f3 f4 f5
    refine ⟨_, rfl, go_of (s := { s with heap := h', toks := tk }) (n := "range_iterator") st' rfl rfl (by decide) ⟨.int (lo + i), H, I1, ⟨t, ?_⟩, ⟨rfl, rfl⟩, st', fun b hb => (hf b hb).1⟩⟩
    rw [Int.mul_one]
  done := by
    intro X hP hw hK hc i pins s σ H E I hf st hg
    subst hP hw hK
    obtain ⟨f0, f1, f2, f3, f4, f5⟩ := hf it (by simp)
    exact wpAny_pyNext_range_end (I.ok.hd hc) st (by have : n ≤ i := hg; omega) fun h' eb => ⟨rfl, I.turned (t' := s.toks) (fun b o hb e => eb b o hb e) f0 f1 f3 f4 f5⟩
  self := fun _ _ _ _ _ st h => wpAny_pyIter_rangeiter st h
end L2

namespace L2
open PySem PySem.Spec PyProof.Rows
section
variable {X : Cx} {tg : Expr}
def iList (K : PySem.W.Frag) (tl : TE) : TI := fun σ H R => tl σ H fun x H1 => ∃ a, x = .ref a ∧ (∃ xs, SqL K H1 a xs) ∧ R (Itl K a) H1
def iTup (K : PySem.W.Frag) (tl : TE) : TI := fun σ H R => tl σ H fun x H1 => ∃ a, x = .ref a ∧ (∃ xs, SqT K H1 a xs) ∧ R (Itt K a) H1
theorem pi_list {l : Expr} {tl : TE} (hl : PE X l tl) : PI X tg l (iList X.K tl) := by
  intro pins s σ H R I h
  refine thn (hl pins s σ H _ I h) fun v s1 ⟨x, H1, I1, r1, q1⟩ => ?_
  obtain ⟨a, e, ⟨xs, hq⟩, q⟩ := q1
  subst e
  cases r1
  obtain ⟨its, rv, p, hz⟩ := I1.list hq
  refine wpAny_pyIter_list p.isList ?_
  refine ⟨s1.heap.objs.size, [s1.heap.objs.size], _, _, H1, rfl, I1.kept (t' := s1.toks) fun b o e => Heap.get?_push_of_some _ e, turn_list a _, ⟨_, Heap.get?_push_size _ rfl, rfl, rfl⟩, fun b hb => ?_, q⟩
  have e : b = s1.heap.objs.size := by simpa using hb
  subst e
  exact I1.fpOk (Nat.le_refl _) (I1.hok.fresh (Nat.le_refl _))
theorem pi_tup {l : Expr} {tl : TE} (hl : PE X l tl) : PI X tg l (iTup X.K tl) := by
  intro pins s σ H R I h
  refine thn (hl pins s σ H _ I h) fun v s1 ⟨x, H1, I1, r1, q1⟩ => ?_
  obtain ⟨a, e, ⟨xs, hq⟩, q⟩ := q1
  subst e
  cases r1
  obtain ⟨its, rv, p, hz⟩ := I1.tuple hq
  refine wpAny_pyIter_tuple (show s1.heap.IsTuple a its.toArray from p) ?_
  refine ⟨s1.heap.objs.size, [s1.heap.objs.size], _, _, H1, rfl, I1.kept (t' := s1.toks) fun b o e => Heap.get?_push_of_some _ e, turn_tuple a _, ⟨_, Heap.get?_push_size _ rfl, rfl, rfl⟩, fun b hb => ?_, q⟩
  have e : b = s1.heap.objs.size := by simpa using hb
  subst e
  exact I1.fpOk (Nat.le_refl _) (I1.hok.fresh (Nat.le_refl _))
/-- a range object just made, walked -/
theorem range_it {pins : List (Addr × Obj)} {σ : St} {H : Hp} {s : Shared} {R : It → Hp → Prop} {E : Value → Shared → Prop} {lo hi : Int} {t u v : Tok} {tk : Nat} (I : Inv X pins σ H s) (h1 : -(2 ^ 62) ≤ lo) (h2 : lo < 2 ^ 62) (h3 : -(2 ^ 62) ≤ hi) (h4 : hi < 2 ^ 62)
    (q : R (Itr lo (hi - lo).toNat) H) : wpAny (model X.prog X.w) X.A (pyIter (.ref s.heap.objs.size)) (PIE X pins σ tg R) E { s with heap := s.heap.push { cls := .type "range", data := .fields #[.int lo t, .int hi u, .int 1 v] }, toks := tk } := by
  refine wpAny_pyIter_range (IsRange.new ..) (small_one h1 h2 h3 h4) ?_
  have I1 : Inv X pins σ H { s with heap := s.heap.push { cls := .type "range", data := .fields #[.int lo t, .int hi u, .int 1 v] }, toks := tk } := I.kept fun b o e => Heap.get?_push_of_some _ e
  refine ⟨(s.heap.push { cls := .type "range", data := .fields #[.int lo t, .int hi u, .int 1 v] }).objs.size, [(s.heap.push { cls := .type "range", data := .fields #[.int lo t, .int hi u, .int 1 v] }).objs.size], _, _, H, rfl,
    I1.kept (t' := tk) fun b o e => Heap.get?_push_of_some _ e, turn_range _ lo (hi - lo).toNat, ?_, fun b hb => ?_, q⟩
  · have e1 : lo + ((0 : Nat) : Int) * 1 = lo := by simp
    have e2 : (((hi - lo).toNat : Nat) : Int) - ((0 : Nat) : Int) = Builtin.Range.rangeSize lo hi 1 := by rw [rangeSize_one]; split <;> omega
    show IsRangeIter _ _ (lo + ((0 : Nat) : Int) * 1) ((((hi - lo).toNat : Nat) : Int) - ((0 : Nat) : Int)) 1
    rw [e1, e2]
    exact Heap.get?_push_size _ rfl
  · have e : b = (s.heap.push { cls := .type "range", data := .fields #[.int lo t, .int hi u, .int 1 v] }).objs.size := by simpa using hb
    subst e
    exact I1.fpOk (Nat.le_refl _) (I1.hok.fresh (Nat.le_refl _))
def iRng1 (ta : TA) : TI := fun σ H R => ta σ H fun vs H1 => ∃ j : Int, vs = [.int j] ∧ -(2 ^ 62) ≤ j ∧ j < 2 ^ 62 ∧ R (Itr 0 j.toNat) H1
theorem pi_range1 {a : Expr} {ta : TA} {p pos : Pos} (hg : Gl X "range") (hm : X.mg "range" = none) (ha : PA X [a] ta) (hs : starEach [a] X.env = [(false, eval a X.env)] := by rfl) : PI X tg (.Call (.Name "range" p) [a] [] pos) (iRng1 ta) := by
  intro pins s σ H R I h
  refine Call_ (ld_blt I hg hm boot_range (PyProof.Rows.callWith_type1 (thn (ha pos pins s σ H _ I h) fun us s1 ⟨vs, H1, I1, r1, q1⟩ => ?_) hs rfl))
  obtain ⟨j, e, q1, q2, q⟩ := q1
  subst e
  cases r1 with
  | cons r rr =>
    cases rr
    obtain ⟨t, rfl⟩ := r
    exact call_range_1 (range_it I1 (by omega) (by omega) q1 q2 (by simpa using q))

/-! ### for -/
/-- W: the invariant by the turn and a measure; N: what the body is to reach -/
def tFor (wi : TI) (g : TG) (tb : TS) : TS := fun D σ H => wi σ H fun J H1 => ∃ W : Nat → Nat → St → Hp → Prop, (∃ m, W 0 m σ H1) ∧ ∀ i m σ H, W i m σ H →
  (J.stop i H ∧ D.nx σ H) ∨ (J.go i H ∧ ∃ N : St → Hp → Prop, (∀ σ' H', N σ' H' → ∃ m', m' < m ∧ W (i + 1) m' σ' H') ∧ ∀ x H', J.yld i H x H' → g x σ H' fun σ2 H2 => tb { D with nx := N, ct := N, bk := D.nx } σ2 H2)
/-- the records at fp as they stand -/
def pinsAt (fp : List Addr) (h : Heap) : List (Addr × Obj) := fp.filterMap fun b => (h.get? b).map fun o => (b, o)
theorem mem_pinsAt {fp : List Addr} {h : Heap} {b : Addr} {o : Obj} (hb : b ∈ fp) (e : h.get? b = some o) : (b, o) ∈ pinsAt fp h := List.mem_filterMap.mpr ⟨b, hb, by rw [e]; rfl⟩
theorem of_pinsAt {fp : List Addr} {h : Heap} {p : Addr × Obj} (hp : p ∈ pinsAt fp h) : p.1 ∈ fp ∧ h.get? p.1 = some p.2 := by
  obtain ⟨b, hb, e⟩ := List.mem_filterMap.mp hp
  cases q : h.get? b with
  | none => rw [q] at e; cases e
  | some o =>
    rw [q] at e
    have e' : (b, o) = p := Option.some.inj e
    subst e'
    exact ⟨hb, q⟩
theorem Inv.pinned {pins : List (Addr × Obj)} {σ : St} {H : Hp} {s : Shared} {fp : List Addr} (I : Inv X pins σ H s) (hf : ∀ b ∈ fp, FpOk X pins H b) (ho : ∀ b ∈ fp, ∃ o, s.heap.get? b = some o ∧ ∀ v, o.data ≠ .cell v) : Inv X (pins ++ pinsAt fp s.heap) σ H s :=
  I.pins_of fun p hp => (List.mem_append.mp hp).elim (fun z => I.pin p (List.mem_append_right _ z)) fun z => by
    obtain ⟨hb, e⟩ := of_pinsAt z
    obtain ⟨f0, f1, f2, _⟩ := hf p.1 hb
    obtain ⟨o, e', d⟩ := ho p.1 hb
    rw [e] at e'; cases e'
    exact ⟨e, f0, f1, f2, d⟩
theorem Inv.unpinned {pins pl : List (Addr × Obj)} {σ : St} {H : Hp} {s : Shared} (I : Inv X (pins ++ pl) σ H s) : Inv X pins σ H s := I.pins_of fun p hp => I.pin p (List.mem_append_right _ (List.mem_append_left _ hp))
theorem ps_for {iter : Expr} {body : List Stmt} {wi : TI} {g : TG} {tb : TS} {pos : Pos} (hp : PassesOwn (model X.prog X.w) X.A X.env X.xe) (hc : X.calm = true) (hi : PI X tg iter wi) (hg : PG X tg g) (hb : PSs X body tb)
    (hs : ∀ x, foldedSetIterable iter X.env x = pure x := by intro _; rfl) : PS X (.For tg iter body [] pos) (tFor wi g tb) := by
  intro pins s σ H D I h
  refine wpAny_For (thn (hi pins s σ H _ I h) fun v s1 h1 => thn h1 fun itv s2 h2 => ?_) hs
  obtain ⟨it, fp, tn, J, H2, e, I2, T, st2, f2, W, ⟨m0, w0⟩, turn⟩ := h2
  subst e
  -- what stays true of the iterator's objects through the loop
  have stat : ∀ {H' : Hp}, (∀ b ∈ fp, H' b = none) → ∀ b ∈ fp, FpOk X pins H' b := fun hn b hb => ⟨hn b hb, (f2 b hb).2⟩
  refine codeAny_forLoop_any (fun n s' => ∃ i σ' H', Inv X pins σ' H' s' ∧ tn i s'.heap ∧ (∀ b ∈ fp, H' b = none) ∧ W i n σ' H') ?_ m0 ⟨0, σ, H2, I2, st2, fun b hb => (f2 b hb).1, w0⟩
  rintro n s3 ⟨i, σ3, H3, I3, st3, fr3, w3⟩
  rcases turn i n σ3 H3 w3 with ⟨stop, qn⟩ | ⟨go, N, hN, step⟩
  · refine wpAny_passesOwn hp (thn (T.done X rfl rfl rfl hc i pins s3 σ3 H3 X.xe I3 (stat fr3) st3 stop) fun r s4 ⟨hr, I4⟩ => ?_)
    subst hr
    exact wpAny_execs_nil ⟨σ3, H3, I4, qn⟩
  · refine wpAny_passesOwn hp (thn (T.item X rfl rfl rfl hc i pins s3 σ3 H3 X.xe I3 (stat fr3) st3 go) fun r s4 ⟨u, hr, h4⟩ => ?_)
    subst hr
    refine wpAny_passesOwn hp (thn h4 fun _ s5 ⟨x, H5, I5, r5, y5, st5, fr5⟩ => ?_)
    have I5' := I5.pinned (stat fr5) (T.obj _ _ st5)
    refine wpAny_passesOwn hp (thn (hg _ s5 σ3 H5 x u _ I5' r5 (step x H5 y5)) fun _ s6 ⟨σ6, H6, I6, q6⟩ => ?_)
    refine wpAny_passesOwn hp (thn (hb _ s6 σ6 H6 _ I6 q6) fun f s7 q7 => ?_)
    have again : ∀ {σ7 : St} {H7 : Hp}, Inv X (pins ++ pinsAt fp s5.heap) σ7 H7 s7 → N σ7 H7 → ∃ m, m < n ∧ ∃ i σ' H', Inv X pins σ' H' s7 ∧ tn i s7.heap ∧ (∀ b ∈ fp, H' b = none) ∧ W i m σ' H' := fun {σ7 H7} I7 n7 => by
      obtain ⟨m', hm, w7⟩ := hN σ7 H7 n7
      refine ⟨m', hm, i + 1, σ7, H7, I7.unpinned, T.keep _ _ _ st5 fun b hb o e => (I7.pin (b, o) (List.mem_append_right _ (List.mem_append_right _ (mem_pinsAt hb e)))).1, fun b hb => ?_, w7⟩
      obtain ⟨o, e, d⟩ := T.obj _ _ st5 b hb
      exact (I7.pin (b, o) (List.mem_append_right _ (List.mem_append_right _ (mem_pinsAt hb e)))).2.1
    cases f with
    | next => obtain ⟨σ7, H7, I7, n7⟩ := q7; exact again I7 n7
    | cont => obtain ⟨σ7, H7, I7, n7⟩ := q7; exact again I7 n7
    | brk => obtain ⟨σ7, H7, I7, q7⟩ := q7; exact ⟨σ7, H7, I7.unpinned, q7⟩
    | ret v => obtain ⟨x7, σ7, H7, I7, r7, q7⟩ := q7; exact ⟨x7, σ7, H7, I7.unpinned, r7, q7⟩
end

/-! ### the forms one uses -/
/-- over a list that the body leaves as it is -/
theorem for_list {K : PySem.W.Frag} {a : Addr} {xs : List V} {g : TG} {tb : TS} {D : Ends} {σ : St} {H : Hp} (Pv : Nat → St → Hp → Prop) (h0 : Pv 0 σ H) (hl : ∀ i σ H, i ≤ xs.length → Pv i σ H → SqL K H a xs)
    (hs : ∀ i x σ H, xs[i]? = some x → Pv i σ H → g x σ H fun σ2 H2 => tb { D with nx := Pv (i + 1), ct := Pv (i + 1), bk := D.nx } σ2 H2) (hd : ∀ σ H, Pv xs.length σ H → D.nx σ H) :
    ∃ W : Nat → Nat → St → Hp → Prop, (∃ m, W 0 m σ H) ∧ ∀ i m σ H, W i m σ H →
      ((Itl K a).stop i H ∧ D.nx σ H) ∨ ((Itl K a).go i H ∧ ∃ N : St → Hp → Prop, (∀ σ' H', N σ' H' → ∃ m', m' < m ∧ W (i + 1) m' σ' H') ∧ ∀ x H', (Itl K a).yld i H x H' → g x σ H' fun σ2 H2 => tb { D with nx := N, ct := N, bk := D.nx } σ2 H2) := by
  refine ⟨fun i m σ H => m = xs.length - i ∧ i ≤ xs.length ∧ Pv i σ H, ⟨xs.length, by simp, Nat.zero_le _, h0⟩, ?_⟩
  rintro i m σ H ⟨rfl, hi, p⟩
  have q := hl i σ H hi p
  by_cases hlt : i < xs.length
  · refine .inr ⟨⟨xs, xs[i], q, by simp [hlt]⟩, Pv (i + 1), fun σ' H' p' => ⟨xs.length - (i + 1), by omega, rfl, hlt, p'⟩, fun x H' y => ?_⟩
    obtain ⟨e, y⟩ := y
    subst e
    exact hs i x σ _ (y xs q) p
  · have e : i = xs.length := by omega
    subst e
    exact .inl ⟨⟨xs, q, Nat.le_refl _⟩, hd σ H p⟩
theorem for_tup {K : PySem.W.Frag} {a : Addr} {xs : List V} {g : TG} {tb : TS} {D : Ends} {σ : St} {H : Hp} (Pv : Nat → St → Hp → Prop) (h0 : Pv 0 σ H) (hl : ∀ i σ H, i ≤ xs.length → Pv i σ H → SqT K H a xs)
    (hs : ∀ i x σ H, xs[i]? = some x → Pv i σ H → g x σ H fun σ2 H2 => tb { D with nx := Pv (i + 1), ct := Pv (i + 1), bk := D.nx } σ2 H2) (hd : ∀ σ H, Pv xs.length σ H → D.nx σ H) :
    ∃ W : Nat → Nat → St → Hp → Prop, (∃ m, W 0 m σ H) ∧ ∀ i m σ H, W i m σ H →
      ((Itt K a).stop i H ∧ D.nx σ H) ∨ ((Itt K a).go i H ∧ ∃ N : St → Hp → Prop, (∀ σ' H', N σ' H' → ∃ m', m' < m ∧ W (i + 1) m' σ' H') ∧ ∀ x H', (Itt K a).yld i H x H' → g x σ H' fun σ2 H2 => tb { D with nx := N, ct := N, bk := D.nx } σ2 H2) := by
  refine ⟨fun i m σ H => m = xs.length - i ∧ i ≤ xs.length ∧ Pv i σ H, ⟨xs.length, by simp, Nat.zero_le _, h0⟩, ?_⟩
  rintro i m σ H ⟨rfl, hi, p⟩
  have q := hl i σ H hi p
  by_cases hlt : i < xs.length
  · refine .inr ⟨⟨xs, xs[i], q, by simp [hlt]⟩, Pv (i + 1), fun σ' H' p' => ⟨xs.length - (i + 1), by omega, rfl, hlt, p'⟩, fun x H' y => ?_⟩
    obtain ⟨e, y⟩ := y
    subst e
    exact hs i x σ _ (y xs q) p
  · have e : i = xs.length := by omega
    subst e
    exact .inl ⟨⟨xs, q, Nat.le_refl _⟩, hd σ H p⟩
theorem for_range {lo : Int} {n : Nat} {g : TG} {tb : TS} {D : Ends} {σ : St} {H : Hp} (Pv : Nat → St → Hp → Prop) (h0 : Pv 0 σ H)
    (hs : ∀ i σ H, i < n → Pv i σ H → g (.int (lo + i)) σ H fun σ2 H2 => tb { D with nx := Pv (i + 1), ct := Pv (i + 1), bk := D.nx } σ2 H2) (hd : ∀ σ H, Pv n σ H → D.nx σ H) :
    ∃ W : Nat → Nat → St → Hp → Prop, (∃ m, W 0 m σ H) ∧ ∀ i m σ H, W i m σ H →
      ((Itr lo n).stop i H ∧ D.nx σ H) ∨ ((Itr lo n).go i H ∧ ∃ N : St → Hp → Prop, (∀ σ' H', N σ' H' → ∃ m', m' < m ∧ W (i + 1) m' σ' H') ∧ ∀ x H', (Itr lo n).yld i H x H' → g x σ H' fun σ2 H2 => tb { D with nx := N, ct := N, bk := D.nx } σ2 H2) := by
  refine ⟨fun i m σ H => m = n - i ∧ i ≤ n ∧ Pv i σ H, ⟨n, by simp, Nat.zero_le _, h0⟩, ?_⟩
  rintro i m σ H ⟨rfl, hi, p⟩
  by_cases hlt : i < n
  · refine .inr ⟨hlt, Pv (i + 1), fun σ' H' p' => ⟨n - (i + 1), by omega, rfl, hlt, p'⟩, fun x H' y => ?_⟩
    obtain ⟨e, y⟩ := y
    subst e y
    exact hs i σ _ hlt p
  · have e : i = n := by omega
    subst e
    exact .inl ⟨Nat.le_refl _, hd σ H p⟩
end L2

namespace L2
open PySem PySem.Spec PyProof.Rows

abbrev R2 := V → V → Hp → VK → Prop
/-- a two-place operation on values: f is binaryOp op, inplaceOp op or compareOp op -/
def OpR (X : Cx) (f : Value → Value → Sem Value) (r : R2) : Prop :=
  ∀ (pins : List (Addr × Obj)) (s : Shared) (σ : St) (H : Hp) (x y : V) (v u : Value) (Q : VK), Inv X pins σ H s → RelV x v → RelV y u → r x y H Q →
    wpAny (model X.prog X.w) X.A (f v u) (EP X pins σ Q) X.xe s
/-- a one-place operation -/
def UnR (X : Cx) (f : Value → Sem Value) (r : V → Hp → VK → Prop) : Prop :=
  ∀ (pins : List (Addr × Obj)) (s : Shared) (σ : St) (H : Hp) (x : V) (v : Value) (Q : VK), Inv X pins σ H s → RelV x v → r x H Q →
    wpAny (model X.prog X.w) X.A (f v) (EP X pins σ Q) X.xe s
/-- a call of a value that is known (a builtin, a type) with values -/
def CallR (X : Cx) (f : Value) (r : List V → Hp → VK → Prop) : Prop :=
  ∀ (pins : List (Addr × Obj)) (s : Shared) (σ : St) (H : Hp) (xs : List V) (us : List Value) (Q : VK), Inv X pins σ H s → Vals xs us → r xs H Q →
    wpAny (model X.prog X.w) X.A (call f us) (EP X pins σ Q) X.xe s

def tOp (r : R2) (ta tb : TE) : TE := fun σ H Q => ta σ H fun x H1 => tb σ H1 fun y H2 => r x y H2 Q
def tUn (r : V → Hp → VK → Prop) (ta : TE) : TE := fun σ H Q => ta σ H fun x H1 => r x H1 Q
/-- ints in, under C, and a value out -/
def rI (C : Int → Int → Prop) (g : Int → Int → V) : R2 := fun x y H Q => ∃ i j, x = .int i ∧ y = .int j ∧ C i j ∧ Q (g i j) H
def rI0 (g : Int → Int → V) : R2 := fun x y H Q => ∃ i j, x = .int i ∧ y = .int j ∧ Q (g i j) H
def rU (g : Int → V) : V → Hp → VK → Prop := fun x H Q => ∃ i, x = .int i ∧ Q (g i) H

section
variable {X : Cx} {a b c : Expr} {ta tb tc : TE} {pos : Pos}

theorem binT (ha : PE X a ta) (hb : PE X b tb) {pins : List (Addr × Obj)} {s : Shared} {σ : St} {H : Hp} {R : V → V → Hp → Prop} (I : Inv X pins σ H s)
    (h : ta σ H fun x H1 => tb σ H1 fun y H2 => R x y H2) {Q : Value → Shared → Prop} {f : Value → Value → Sem Value}
    (hf : ∀ v u s2 x y H2, Inv X pins σ H2 s2 → RelV x v → RelV y u → R x y H2 → wpAny (model X.prog X.w) X.A (f v u) Q X.xe s2) :
    wpAny (model X.prog X.w) X.A (eval a X.env) (fun v s₁ => wpAny (model X.prog X.w) X.A (eval b X.env) (fun u s₂ => wpAny (model X.prog X.w) X.A (f v u) Q X.xe s₂) X.xe s₁) X.xe s := by
  refine thn (ha pins s σ H _ I h) fun v s1 ⟨x, H1, I1, r1, q1⟩ => ?_
  refine thn (hb pins s1 σ H1 _ I1 q1) fun u s2 ⟨y, H2, I2, r2, q2⟩ => ?_
  exact hf v u s2 x y H2 I2 r1 r2 q2

theorem pe_op {op : Operator} {r : R2} (ho : OpR X (binaryOp op) r) (ha : PE X a ta) (hb : PE X b tb) : PE X (.BinOp a op b pos) (tOp r ta tb) := by
  intro pins s σ H Q I h
  exact wpAny_BinOp (binT ha hb I h fun v u s2 x y H2 I2 rx ry q => ho pins s2 σ H2 x y v u Q I2 rx ry q)
theorem pe_un {op : UnaryOp} {r : V → Hp → VK → Prop} (ho : UnR X (unaryOp op) r) (ha : PE X a ta) : PE X (.UnaryOp op a pos) (tUn r ta) := by
  intro pins s σ H Q I h
  exact UnaryOp_ (thn (ha pins s σ H _ I h) fun v s1 ⟨x, H1, I1, r1, q1⟩ => ho pins s1 σ H1 x v Q I1 r1 q1)

/-! ### ints -/
theorem opI {f : Value → Value → Sem Value} {C : Int → Int → Prop} {g : Int → Int → Int}
    (rule : ∀ (i j : Int) (t u : Tok) (s : Shared) (Q : Value → Shared → Prop) (E : Value → Shared → Prop), C i j → Q (.int (g i j) s.toks) { s with toks := s.toks + 1 } → wpAny (model X.prog X.w) X.A (f (.int i t) (.int j u)) Q E s) :
    OpR X f (rI C fun i j => .int (g i j)) := by
  intro pins s σ H x y v u Q I rx ry h
  obtain ⟨i, j, rfl, rfl, hc, q⟩ := h
  obtain ⟨t, rfl⟩ := rx
  obtain ⟨t', rfl⟩ := ry
  exact rule i j t t' s _ _ hc ⟨.int (g i j), H, I.tok _, ⟨_, rfl⟩, q⟩
theorem opI0 {f : Value → Value → Sem Value} {g : Int → Int → Int}
    (rule : ∀ (i j : Int) (t u : Tok) (s : Shared) (Q : Value → Shared → Prop) (E : Value → Shared → Prop), Q (.int (g i j) s.toks) { s with toks := s.toks + 1 } → wpAny (model X.prog X.w) X.A (f (.int i t) (.int j u)) Q E s) :
    OpR X f (rI0 fun i j => .int (g i j)) := by
  intro pins s σ H x y v u Q I rx ry h
  obtain ⟨i, j, rfl, rfl, q⟩ := h
  obtain ⟨t, rfl⟩ := rx
  obtain ⟨t', rfl⟩ := ry
  exact rule i j t t' s _ _ ⟨.int (g i j), H, I.tok _, ⟨_, rfl⟩, q⟩
theorem opB0 {f : Value → Value → Sem Value} {g : Int → Int → Bool}
    (rule : ∀ (i j : Int) (t u : Tok) (s : Shared) (Q : Value → Shared → Prop) (E : Value → Shared → Prop), Q (.bool (g i j)) s → wpAny (model X.prog X.w) X.A (f (.int i t) (.int j u)) Q E s) :
    OpR X f (rI0 fun i j => .bl (g i j)) := by
  intro pins s σ H x y v u Q I rx ry h
  obtain ⟨i, j, rfl, rfl, q⟩ := h
  obtain ⟨t, rfl⟩ := rx
  obtain ⟨t', rfl⟩ := ry
  exact rule i j t t' s _ _ ⟨.bl (g i j), H, I, rfl, q⟩

def CPow (i j : Int) : Prop := 0 ≤ j ∧ j ≤ 1000000 ∧ i.natAbs < 2 ^ 64

theorem op_add : OpR X (binaryOp .Add) (rI0 fun i j => .int (i + j)) := opI0 fun _ _ _ _ _ _ _ q => add_int q
theorem op_sub : OpR X (binaryOp .Sub) (rI0 fun i j => .int (i - j)) := opI0 fun _ _ _ _ _ _ _ q => sub_int q
theorem op_modN : OpR X (binaryOp .Mod) (rI (fun _ j => j ≠ 0) fun i j => .int (i.fmod j)) := opI fun _ _ _ _ _ _ _ hc q => mod_int' hc q
theorem op_pow : OpR X (binaryOp .Pow) (rI CPow fun i j => .int (i ^ j.toNat)) := opI fun _ _ _ _ _ _ _ hc q => pow_int_small hc.1 hc.2.1 hc.2.2 q


theorem unI {f : Value → Sem Value} {g : Int → Int}
    (rule : ∀ (i : Int) (t : Tok) (s : Shared) (Q : Value → Shared → Prop) (E : Value → Shared → Prop), Q (.int (g i) s.toks) { s with toks := s.toks + 1 } → wpAny (model X.prog X.w) X.A (f (.int i t)) Q E s) :
    UnR X f (rU fun i => .int (g i)) := by
  intro pins s σ H x v Q I rx h
  obtain ⟨i, rfl, q⟩ := h
  obtain ⟨t, rfl⟩ := rx
  exact rule i t s _ _ ⟨.int (g i), H, I.tok _, ⟨_, rfl⟩, q⟩
theorem un_neg : UnR X (unaryOp .USub) (rU fun i => .int (-i)) := unI fun _ _ _ _ _ q => neg_int q

/-! ### bools among ints: n += (a < b) -/
end

/-! ### comparisons -/
/-- the scalars that == tells apart as data does -/
def scal : V → V → Bool
  | .non, .non => true | .non, .int _ => true | .int _, .non => true | .non, .bl _ => true | .bl _, .non => true | .non, .str _ => true | .str _, .non => true
  | .int _, .int _ => true | .bl _, .bl _ => true | .str _, .str _ => true | .byt _, .byt _ => true
  | .int _, .str _ => true | .str _, .int _ => true | .bl _, .str _ => true | .str _, .bl _ => true
  | _, _ => false
def rEq : R2 := fun x y H Q => scal x y = true ∧ Q (.bl (decide (x = y))) H
def rNe : R2 := fun x y H Q => scal x y = true ∧ Q (.bl (!decide (x = y))) H

theorem dec_int {i j : Int} : decide (V.int i = V.int j) = (i == j) := by
  rw [Bool.eq_iff_iff]
  simp
theorem dec_bl {i j : Bool} : decide (V.bl i = V.bl j) = (i == j) := by
  rw [Bool.eq_iff_iff]
  simp
theorem dec_str {i j : Str} : decide (V.str i = V.str j) = (i == j) := by
  rw [Bool.eq_iff_iff]
  simp
theorem dec_byt {i j : Array UInt8} : decide (V.byt i = V.byt j) = (i.toList == j.toList) := by
  rw [Bool.eq_iff_iff]
  cases i
  cases j
  simp

section
variable {X : Cx} {a b c : Expr} {ta tb tc : TE} {pos : Pos}
theorem fin_bl {pins : List (Addr × Obj)} {σ : St} {H : Hp} {s : Shared} {Q : VK} {k k' : Bool} (I : Inv X pins σ H s) (q : Q (.bl k) H) (e : k = k') : EP X pins σ Q (.bool k') s := by
  subst e
  exact ⟨.bl k, H, I, rfl, q⟩
theorem op_eq : OpR X (compareOp .Eq) rEq := by
  intro pins s σ H x y v u Q I rx ry h
  obtain ⟨hs, q⟩ := h
  cases x with
  | non =>
    cases rx
    cases y with
    | non => cases ry; exact PySem.EqNone.eq_none_none (fin_bl I q (by simp))
    | bl j => cases ry; exact PySem.EqNone.eq_none_bool (fin_bl I q (by simp))
    | int j => obtain ⟨t', rfl⟩ := ry; exact PySem.EqNone.eq_none_int (fin_bl I q (by simp))
    | str j => obtain ⟨t', rfl⟩ := ry; exact PySem.EqNone.eq_none_str (fin_bl I q (by simp))
    | _ => exact absurd (show false = true from hs) Bool.false_ne_true
  | bl i =>
    cases rx
    cases y with
    | non => cases ry; exact PySem.EqNone.eq_bool_none (fin_bl I q (by simp))
    | bl j => cases ry; exact eq_bool (fin_bl I q dec_bl)
    | str j => obtain ⟨t', rfl⟩ := ry; exact PySem.EqMixed.eq_bool_str (fin_bl I q (by simp))
    | _ => exact absurd (show false = true from hs) Bool.false_ne_true
  | int i =>
    obtain ⟨t, rfl⟩ := rx
    cases y with
    | non => cases ry; exact PySem.EqNone.eq_int_none (fin_bl I q (by simp))
    | int j => obtain ⟨t', rfl⟩ := ry; exact eq_int (fin_bl I q dec_int)
    | str j => obtain ⟨t', rfl⟩ := ry; exact PySem.EqMixed.eq_int_str (fin_bl I q (by simp))
    | _ => exact absurd (show false = true from hs) Bool.false_ne_true
  | str i =>
    obtain ⟨t, rfl⟩ := rx
    cases y with
    | non => cases ry; exact PySem.EqNone.eq_str_none (fin_bl I q (by simp))
    | bl j => cases ry; exact PySem.EqMixed.eq_str_bool (fin_bl I q (by simp))
    | int j => obtain ⟨t', rfl⟩ := ry; exact PySem.EqMixed.eq_str_int (fin_bl I q (by simp))
    | str j => obtain ⟨t', rfl⟩ := ry; exact eq_str (fin_bl I q dec_str)
    | _ => exact absurd (show false = true from hs) Bool.false_ne_true
  | byt i =>
    obtain ⟨t, rfl⟩ := rx
    cases y with
    | byt j => obtain ⟨t', rfl⟩ := ry; exact PySem.W.eq_bytes (fin_bl I q dec_byt)
    | _ => exact absurd (show false = true from hs) Bool.false_ne_true
  | _ => cases y <;> exact absurd (show false = true from hs) Bool.false_ne_true
theorem op_ne : OpR X (compareOp .NotEq) rNe := by
  intro pins s σ H x y v u Q I rx ry h
  obtain ⟨hs, q⟩ := h
  cases x with
  | non =>
    cases rx
    cases y with
    | non => cases ry; exact PySem.EqNone.ne_none_none (fin_bl I q (by simp))
    | bl j => cases ry; exact PySem.EqNone.ne_none_bool (fin_bl I q (by simp))
    | int j => obtain ⟨t', rfl⟩ := ry; exact PySem.EqNone.ne_none_int (fin_bl I q (by simp))
    | str j => obtain ⟨t', rfl⟩ := ry; exact PySem.EqNone.ne_none_str (fin_bl I q (by simp))
    | _ => exact absurd (show false = true from hs) Bool.false_ne_true
  | bl i =>
    cases rx
    cases y with
    | non => cases ry; exact PySem.EqNone.ne_bool_none (fin_bl I q (by simp))
    | bl j => cases ry; exact ne_bool (fin_bl I q (congrArg not dec_bl))
    | str j => obtain ⟨t', rfl⟩ := ry; exact PySem.EqMixed.ne_bool_str (fin_bl I q (by simp))
    | _ => exact absurd (show false = true from hs) Bool.false_ne_true
  | int i =>
    obtain ⟨t, rfl⟩ := rx
    cases y with
    | non => cases ry; exact PySem.EqNone.ne_int_none (fin_bl I q (by simp))
    | int j => obtain ⟨t', rfl⟩ := ry; exact ne_int (fin_bl I q (congrArg not dec_int))
    | str j => obtain ⟨t', rfl⟩ := ry; exact PySem.EqMixed.ne_int_str (fin_bl I q (by simp))
    | _ => exact absurd (show false = true from hs) Bool.false_ne_true
  | str i =>
    obtain ⟨t, rfl⟩ := rx
    cases y with
    | non => cases ry; exact PySem.EqNone.ne_str_none (fin_bl I q (by simp))
    | bl j => cases ry; exact PySem.EqMixed.ne_str_bool (fin_bl I q (by simp))
    | int j => obtain ⟨t', rfl⟩ := ry; exact PySem.EqMixed.ne_str_int (fin_bl I q (by simp))
    | str j => obtain ⟨t', rfl⟩ := ry; exact ne_str (fin_bl I q (congrArg not dec_str))
    | _ => exact absurd (show false = true from hs) Bool.false_ne_true
  | byt i =>
    obtain ⟨t, rfl⟩ := rx
    cases y with
    | byt j => obtain ⟨t', rfl⟩ := ry; exact PySem.W.ne_bytes (fin_bl I q (congrArg not dec_byt))
    | _ => exact absurd (show false = true from hs) Bool.false_ne_true
  | _ => cases y <;> exact absurd (show false = true from hs) Bool.false_ne_true

theorem op_lt : OpR X (compareOp .Lt) (rI0 fun i j => .bl (decide (i < j))) := opB0 fun _ _ _ _ _ _ _ q => lt_int q
theorem op_le : OpR X (compareOp .LtE) (rI0 fun i j => .bl (decide (i ≤ j))) := opB0 fun _ _ _ _ _ _ _ q => le_int q
theorem op_gt : OpR X (compareOp .Gt) (rI0 fun i j => .bl (decide (j < i))) := opB0 fun _ _ _ _ _ _ _ q => gt_int q
theorem op_ge : OpR X (compareOp .GtE) (rI0 fun i j => .bl (decide (j ≤ i))) := opB0 fun _ _ _ _ _ _ _ q => ge_int q

/-- is None, is not None: the right side a value none -/
theorem op_isN : OpR X (compareOp .Is) (fun x y H Q => y = .non ∧ Q (.bl (decide (x = .non))) H) := by
  intro pins s σ H x y v u Q I rx ry h
  obtain ⟨rfl, q⟩ := h
  cases ry
  refine is_none_gen (fin_bl I q ?_)
  cases x <;> first
    | (cases rx; rfl)
    | (obtain ⟨t, rfl⟩ := rx; rfl)
theorem op_notN : OpR X (compareOp .IsNot) (fun x y H Q => y = .non ∧ Q (.bl (!decide (x = .non))) H) := by
  intro pins s σ H x y v u Q I rx ry h
  obtain ⟨rfl, q⟩ := h
  cases ry
  refine isnot_none_gen (fin_bl I q ?_)
  cases x <;> first
    | (cases rx; rfl)
    | (obtain ⟨t, rfl⟩ := rx; rfl)



theorem nomark (b : Expr) {op : CmpOp} (h : op ≠ .In := by decide) (h2 : op ≠ .NotIn := by decide) : behindInMarks op b = false := by
  have e1 : (op == CmpOp.In) = false := by cases op <;> first | rfl | exact absurd rfl h
  have e2 : (op == CmpOp.NotIn) = false := by cases op <;> first | rfl | exact absurd rfl h2
  cases b <;> simp [behindInMarks, e1, e2]
/-- a comparison as a value; hm: nomark b, or (for in, not in) by with_unfolding_all rfl -/
theorem pe_cmpR {op : CmpOp} {r : R2} (ho : OpR X (compareOp op) r) (ha : PE X a ta) (hb : PE X b tb) (hm : behindInMarks op b = false) : PE X (.Compare a [op] [b] pos) (tOp r ta tb) := by
  intro pins s σ H Q I h
  exact wpAny_Compare1 (binT ha hb I h fun v u s2 x y H2 I2 rx ry q => ho pins s2 σ H2 x y v u Q I2 rx ry q) hm
/-- a reading of a value as a test -/
def tTest (t : TE) : TT := fun σ H Q => t σ H fun x H' => ∃ k, x = .bl k ∧ Q k H'
theorem pt_cmpR {op : CmpOp} {r : R2} (ho : OpR X (compareOp op) r) (ha : PE X a ta) (hb : PE X b tb) (hm : behindInMarks op b = false) : PT X (.Compare a [op] [b] pos) (tTest (tOp r ta tb)) := by
  intro pins s σ H Q I h
  refine wpAny_isTrue_Compare1 (thn (ha pins s σ H _ I h) fun v s1 ⟨x, H1, I1, r1, q1⟩ => thn (hb pins s1 σ H1 _ I1 q1) fun u s2 ⟨y, H2, I2, r2, q2⟩ =>
    thn (ho pins s2 σ H2 x y v u _ I2 r1 r2 q2) fun c s3 ⟨z, H3, I3, r3, k, e, q3⟩ => ?_) hm
  subst e
  cases r3
  exact wpAny_truthy_bool ⟨H3, I3, q3⟩
/-- a op1 b op2 c -/
def tChain (r r' : R2) (ta tb tc : TE) : TE := fun σ H Q => ta σ H fun x H1 => tb σ H1 fun y H2 => r x y H2 fun z H3 => ∃ k, z = .bl k ∧
  (if k = true then tc σ H3 fun w' H4 => r' y w' H4 Q else Q (.bl false) H3)
theorem pe_chain {op op' : CmpOp} {r r' : R2} (ho : OpR X (compareOp op) r) (ho' : OpR X (compareOp op') r') (ha : PE X a ta) (hb : PE X b tb) (hc : PE X c tc)
    (hm : lastMarks [op, op'] [b, c] = false := by with_unfolding_all rfl) : PE X (.Compare a [op, op'] [b, c] pos) (tChain r r' ta tb tc) := by
  intro pins s σ H Q I h
  refine Compare_chain (thn (ha pins s σ H _ I h) fun v s1 ⟨x, H1, I1, r1, q1⟩ => chain_link (thn (hb pins s1 σ H1 _ I1 q1) fun u s2 ⟨y, H2, I2, r2, q2⟩ =>
    thn (ho pins s2 σ H2 x y v u _ I2 r1 r2 q2) fun d s3 ⟨z, H3, I3, r3, k, e, q3⟩ => ?_)) hm
  subst e
  cases r3
  refine wpAny_truthy_bool ?_
  cases k with
  | false => exact ite_ff ⟨.bl false, H3, I3, rfl, q3⟩
  | true => exact ite_tt (chain_last (thn (hc pins s3 σ H3 _ I3 q3) fun w' s4 ⟨z', H4, I4, r4, q4⟩ => ho' pins s4 σ H4 y z' u w' Q I4 r2 r4 q4))
theorem pt_chain {op op' : CmpOp} {r r' : R2} (ho : OpR X (compareOp op) r) (ho' : OpR X (compareOp op') r') (ha : PE X a ta) (hb : PE X b tb) (hc : PE X c tc)
    (hm : lastMarks [op, op'] [b, c] = false := by with_unfolding_all rfl) : PT X (.Compare a [op, op'] [b, c] pos) (tTest (tChain r r' ta tb tc)) := by
  intro pins s σ H Q I h
  refine isTrue_chain (thn (ha pins s σ H _ I h) fun v s1 ⟨x, H1, I1, r1, q1⟩ => test_link (thn (hb pins s1 σ H1 _ I1 q1) fun u s2 ⟨y, H2, I2, r2, q2⟩ =>
    thn (ho pins s2 σ H2 x y v u _ I2 r1 r2 q2) fun d s3 ⟨z, H3, I3, r3, k, e, q3⟩ => ?_)) hm
  subst e
  cases r3
  refine wpAny_truthy_bool ?_
  cases k with
  | false =>
    obtain ⟨k', e', q'⟩ := q3
    cases e'
    exact ite_ff ⟨H3, I3, q'⟩
  | true =>
    refine ite_tt (test_last (thn (hc pins s3 σ H3 _ I3 q3) fun w' s4 ⟨z', H4, I4, r4, q4⟩ => thn (ho' pins s4 σ H4 y z' u w' _ I4 r2 r4 q4) fun d' s5 ⟨z2, H5, I5, r5, k2, e2, q5⟩ => ?_))
    subst e2
    cases r5
    exact wpAny_truthy_bool ⟨H5, I5, q5⟩

/-! ### truth -/
theorem line63 : (sizeLine : Nat) < 2 ^ 63 := by rw [sizeLine_eq]; decide

/-! ### strs and bytes -/


/-! ### scalar builtins, by CallR -/
theorem vals1 {x : V} {us : List Value} (r : Vals [x] us) : ∃ u, us = [u] ∧ RelV x u := by
  cases r with
  | cons r1 r2 => cases r2; exact ⟨_, rfl, r1⟩
theorem vals2 {x y : V} {us : List Value} (r : Vals [x, y] us) : ∃ u w', us = [u, w'] ∧ RelV x u ∧ RelV y w' := by
  cases r with
  | cons r1 r2 =>
    cases r2 with
    | cons r3 r4 => cases r4; exact ⟨_, _, rfl, r1, r3⟩
theorem call_abs : CallR X (.builtin "abs") (fun xs H Q => ∃ i, xs = [.int i] ∧ Q (.int (if i < 0 then -i else i)) H) := by
  intro pins s σ H xs us Q I r h
  obtain ⟨i, rfl, q⟩ := h
  obtain ⟨u, rfl, t, rfl⟩ := vals1 r
  exact call_abs_int fun u tk => ⟨.int (if i < 0 then -i else i), H, I.tok _, ⟨_, rfl⟩, q⟩
end
end L2

namespace L2
open PySem PySem.Spec PyProof.Rows

/-! ### an instance, its attributes a map -/
structure ObjM (h : Heap) (x dx C : Addr) (mA : Str → Option Value) : Prop where
  obj : h.get? x = some (PySem.W.instObj C dx)
  ns : h.Ns1 dx mA
  ne : dx ≠ x

theorem lookIn_ns {h : Heap} {dx : Addr} {mA : Str → Option Value} (n : h.Ns1 dx mA) : ∃ od, h.get? dx = some od ∧ ∀ name, PySem.W.lookIn name od = some (mA name) := by
  obtain ⟨o, es, ep, ho, hd, hk, _, hm⟩ := n
  refine ⟨o, ho, fun name => ?_⟩
  have e := hm name
  unfold nsFind findBy at e
  rw [← Array.find?_toList] at e
  unfold PySem.W.lookIn
  rw [hd]
  dsimp only
  split
  · rename_i y q
    rw [q] at e
    exact congrArg some e
  · rename_i q
    rw [q] at e
    have a : es.toList.any (·.refKey) = false := by
      rw [List.any_eq_false]
      intro y hy
      obtain ⟨z, t, hkey⟩ := hk y (Array.mem_toList_iff.mp hy)
      simp [DictEntry.refKey, hkey]
    have a' : ¬ es.toList.any (·.refKey) = true := by rw [a]; exact Bool.false_ne_true
    rw [if_neg a']
    exact congrArg some e

theorem ObjM.look {h : Heap} {x dx C : Addr} {mA : Str → Option Value} (I : ObjM h x dx C mA) : ∃ od, PySem.W.InstAt h x (PySem.W.instObj C dx) C (some od) ∧ ∀ name, PySem.W.lookIn name od = some (mA name) :=
  let ⟨od, ho, hl⟩ := lookIn_ns I.ns
  ⟨od, ⟨I.obj, rfl, rfl, ho⟩, hl⟩

section
variable {prog : Program} {w : World} {A : Around} {E : Value → Shared → Prop} {s : Shared} {K : PySem.W.Frag} {x dx C f : Addr} {mA : Str → Option Value} {name : Str} {v : Value}





end

/-! ### the attributes as a list of pairs -/
def putF (f : Str) (v : V) : List (Str × V) → List (Str × V)
  | [] => [(f, v)]
  | (g, x) :: r => if g = f then (g, v) :: r else (g, x) :: putF f v r
theorem lookup_putF (f g : Str) (v : V) : ∀ fs : List (Str × V), (putF f v fs).lookup g = if g = f then some v else fs.lookup g
  | [] => by
    show List.lookup g [(f, v)] = _
    by_cases h : g = f
    · have hb : (g == f) = true := beq_iff_eq.mpr h
      simp only [List.lookup, hb, if_pos h]
    · have hb : (g == f) = false := beq_eq_false_iff_ne.mpr h
      simp only [List.lookup, hb, if_neg h]
  | (k, x) :: r => by
    have ih := lookup_putF f g v r
    rw [show putF f v ((k, x) :: r) = (if k = f then (k, v) :: r else (k, x) :: putF f v r) from rfl]
    by_cases hk : k = f
    · rw [if_pos hk]
      by_cases h : g = k
      · have hb : (g == k) = true := beq_iff_eq.mpr h
        simp only [List.lookup, hb, if_pos (h.trans hk)]
      · have hb : (g == k) = false := beq_eq_false_iff_ne.mpr h
        simp only [List.lookup, hb, if_neg (fun e : g = f => h (e.trans hk.symm))]
    · rw [if_neg hk]
      by_cases h : g = k
      · have hb : (g == k) = true := beq_iff_eq.mpr h
        simp only [List.lookup, hb, if_neg (fun e : g = f => hk (h.symm.trans e))]
      · have hb : (g == k) = false := beq_eq_false_iff_ne.mpr h
        simp only [List.lookup, hb]
        exact ih

theorem RelO.some_of {v : V} {o : Option Value} (r : RelO (some v) o) : ∃ u, o = some u ∧ RelV v u := by
  cases o with
  | none => exact (show False from r).elim
  | some u => exact ⟨u, rfl, r⟩
theorem RelO.none_of {o : Option Value} (r : RelO none o) : o = none := by
  cases o with
  | none => rfl
  | some u => exact (show False from r).elim
theorem handed_of {v : V} {u : Value} (r : RelV v u) : PySem.W.handedIn u = true := by
  cases v with
  | non => cases (show u = Value.none from r); rfl
  | bl b => cases (show u = Value.bool b from r); rfl
  | int i => obtain ⟨t, e⟩ := (show ∃ t, u = Value.int i t from r); cases e; rfl
  | str x => obtain ⟨t, e⟩ := (show ∃ t, u = Value.str x t from r); cases e; rfl
  | byt b => obtain ⟨t, e⟩ := (show ∃ t, u = Value.bytes b t from r); cases e; rfl
  | flt b => obtain ⟨t, e⟩ := (show ∃ t, u = Value.float b t from r); cases e; rfl
  | ref a => cases (show u = Value.ref a from r); rfl
  | ty n => cases (show u = Value.type n from r); rfl

section
variable {P : Program} {w : World} {H H' : Hp} {h h' : Heap} {a C dx : Addr} {fs fs' : List (Str × V)}
theorem ins_get (hok : HOk P w H h) (e : H a = some (.ins C dx fs)) : ∃ mA, ObjM h a dx C mA ∧ (∀ f, RelO (fs.lookup f) (mA f)) ∧ PySem.Within mA (fs.map (·.1)) ∧ fs.length ≤ 1000 ∧ H dx = some (.own a) := by
  obtain ⟨d, z, ne, ob, mA, n, r, q⟩ := (show ObjOk P w H h a (.ins C dx fs) from hok a _ e)
  exact ⟨mA, ⟨ob, n, ne⟩, r, q, z, d⟩
end

/-! ### what of the text a class must have -/
structure Cls (K : PySem.W.Frag) (C : Addr) : Prop where
  pg : PySem.W.plainGet K C Str.empty = true
  hd : PySem.W.hasDictIn K C = true
  po : PySem.W.plainOver K C = true
  sa : PySem.W.findIn K (.ref C) "__setattr__" = some (some (.builtin "object.__setattr__"))
theorem Cls.get {K : PySem.W.Frag} {C : Addr} (c : Cls K C) (f : Str) : PySem.W.plainGet K C f = true := c.pg
/-- no class of it has the name -/
def NoAttr (K : PySem.W.Frag) (C : Addr) (f : Str) : Prop := PySem.W.findIn K (.ref C) f = some none

section
variable {X : Cx} {pins : List (Addr × Obj)} {σ : St} {H : Hp} {s : Shared} {a C dx : Addr} {fs : List (Str × V)} {f : Str} {v : V} {A : Around} {E : Value → Shared → Prop}






/-- e.f where nothing but the object is asked: through attributeBase (super) and the last hold -/
theorem attr_of {prog : Program} {w : World} {env : Env} {e : Expr} {f : Str} {pos : Pos} {s : Shared} {Q : Value → Shared → Prop} (hb : attributeBase e f env (eval e env) = eval e env)
    (h : wpAny (model prog w) A (eval e env) (fun o s₁ => wpAny (model prog w) A (getAttr o f true) Q E s₁) E s) : wpAny (model prog w) A (eval (.Attribute e f pos) env) Q E s :=
  Attribute_any_ h (by rw [arm_eval_Attribute, hb])
end

/-! ### readings and rules -/

section
variable {X : Cx} {o e value : Expr} {f : Str} {pos pos' tpos : Pos} {ta tv : TE}

end

/-! ### isinstance -/
section
variable {X : Cx} {pins : List (Addr × Obj)} {σ : St} {H : Hp} {s : Shared} {A : Around} {E : Value → Shared → Prop} {Q : Value → Shared → Prop} {c : Value} {b : Bool}
/-- the type of a value, as the fragment's deciders take it; for an instance its class -/
inductive TyOf (K : PySem.W.Frag) (H : Hp) : V → Value → Prop where
  | non : TyOf K H .non (.type "NoneType")
  | bl (x : Bool) : TyOf K H (.bl x) (.type "bool")
  | int (i : Int) : TyOf K H (.int i) (.type "int")
  | str (x : Str) : TyOf K H (.str x) (.type "str")
  | flt (x : UInt64) : TyOf K H (.flt x) (.type "float")
  | lst {a : Addr} {xs : List V} (e : H a = some (.lst xs)) : TyOf K H (.ref a) (.type "list")
  | frz {a : Addr} {o : Obj} {xs : List V} (e : H a = some (.frz o (.lst xs))) : TyOf K H (.ref a) (.type "list")
  | tup {a : Addr} {xs : List V} (e : H a = some (.tup xs)) : TyOf K H (.ref a) (.type "tuple")
  | dK {a : Addr} {kvs : List (Key × V)} (e : H a = some (.dK kvs)) : TyOf K H (.ref a) (.type "dict")
  | dT {a : Addr} {kvs : List (List Key × V)} (e : H a = some (.dT kvs)) : TyOf K H (.ref a) (.type "dict")
  | ins {a C dx : Addr} {fs : List (Str × V)} (e : H a = some (.ins C dx fs)) (cl : Cls K C) (ha : PySem.W.findIn K (.ref C) "__class__" = some (some (.builtin "object.__class__")))
      (hn : PySem.W.specialIn K (.builtin "object.__class__") "__get__" = some (some (.builtin "getset_descriptor.__get__"))) (htk : PySem.W.takesIn K (.builtin "object.__class__") = some true)
      (hm : PySem.W.mroIn K C (.type "object") = some true) : TyOf K H (.ref a) (.ref C)
/-- isinstance(x, c) for one class c, a built-in or an own one: kitOne's answer -/
theorem isinst_ok {x : V} {u t : Value} (I : Inv X pins σ H s) (rx : RelV x u) (ty : TyOf X.K H x t) (e : PySem.W.kitOne X.K t c = some b) (h : ∀ tk, Q (.bool b) { s with toks := tk }) :
    wpAny (model X.prog X.w) A (call (.builtin "isinstance") [u, c]) Q E s := by
  cases ty with
  | non => cases (show u = Value.none from rx); exact PySem.W.kia_one PySem.W.kitx_none I.kIn True.intro e (fun z => nomatch z) h
  | bl y => cases (show u = Value.bool y from rx); exact PySem.W.kia_one PySem.W.kitx_bool I.kIn True.intro e (fun z => nomatch z) h
  | int i => obtain ⟨t, q⟩ := (show ∃ t, u = Value.int i t from rx); cases q; exact PySem.W.kia_one PySem.W.kitx_int I.kIn True.intro e (fun z => nomatch z) h
  | str y => obtain ⟨t, q⟩ := (show ∃ t, u = Value.str y t from rx); cases q; exact PySem.W.kia_one PySem.W.kitx_str I.kIn True.intro e (fun z => nomatch z) h
  | flt y => obtain ⟨t, q⟩ := (show ∃ t, u = Value.float y t from rx); cases q; exact PySem.W.kia_one PySem.W.kitx_float I.kIn True.intro e (fun z => nomatch z) h
  | @lst a xs ea =>
    cases (show u = Value.ref a from rx)
    obtain ⟨_, _, n, _, h1⟩ := (show ObjOk X.prog X.w H s.heap a (.lst xs) from I.hok a _ ea)
    exact PySem.W.kia_one PySem.W.kitx_list I.kIn ⟨_, h1, rfl⟩ e (fun z => nomatch z) h
  | @frz a ob xs ea =>
    cases (show u = Value.ref a from rx)
    obtain ⟨_, _, _, n, _, h1⟩ := (show ObjOk X.prog X.w H s.heap a (.frz ob (.lst xs)) from I.hok a _ ea)
    exact PySem.W.kia_one PySem.W.kitx_list I.kIn ⟨_, h1, rfl⟩ e (fun z => nomatch z) h
  | @tup a xs ea =>
    cases (show u = Value.ref a from rx)
    obtain ⟨_, _, _, p⟩ := (show ObjOk X.prog X.w H s.heap a (.tup xs) from I.hok a _ ea)
    obtain ⟨o, h1, h2, _⟩ := p
    exact PySem.W.kia_one PySem.W.kitx_tuple I.kIn ⟨o, h1, h2⟩ e (fun z => nomatch z) h
  | @dK a kvs ea =>
    cases (show u = Value.ref a from rx)
    obtain ⟨_, _, vs, _, p⟩ := (show ObjOk X.prog X.w H s.heap a (.dK kvs) from I.hok a _ ea)
    obtain ⟨o, es, ep, h1, h2, _⟩ := p
    exact PySem.W.kia_one PySem.W.kitx_dict I.kIn ⟨o, h1, h2.1⟩ e (fun z => nomatch z) h
  | @dT a kvs ea =>
    cases (show u = Value.ref a from rx)
    obtain ⟨_, _, xs, _, o, es, ep, h1, h2, _⟩ := (show ObjOk X.prog X.w H s.heap a (.dT kvs) from I.hok a _ ea)
    exact PySem.W.kia_one PySem.W.kitx_dict I.kIn ⟨o, h1, h2.1⟩ e (fun z => nomatch z) h
  | @ins a C dx fs ea cl ha hn htk hm =>
    cases (show u = Value.ref a from rx)
    obtain ⟨mA, O, _⟩ := ins_get I.hok ea
    obtain ⟨od, J, _⟩ := O.look
    exact PySem.W.kia_one (PySem.W.kitx_own (cl.get _) cl.hd ha hn htk hm) I.kIn J e (fun z => nomatch z) h
end
end L2

namespace L2
open PySem PySem.Spec PyProof.Rows

/-! ### room -/
structure Room (k : Nat) (A : Around) : Prop where
  hd : A.handled = none
  dp : A.depth + 3 * k + 5 < recursionLimit
  un : A.units + 16 * k + 200 < cLine
theorem Room.mono {j k : Nat} {A : Around} (r : Room k A) (h : j ≤ k) : Room j A := ⟨r.hd, by have := r.dp; omega, by have := r.un; omega⟩
theorem Room.deeper {k : Nat} {A : Around} (r : Room (k + 1) A) (env : Env) : Room k (A.deeper env) :=
  ⟨r.hd, by have := r.dp; show A.depth + 1 + 3 * k + 5 < _; omega, by have := r.un; show A.units + 3 + 16 * k + 200 < _; omega⟩
theorem make_depth {A : Around} {C : Addr} {us : List Value} {kw : List (Str × Value)} : (A.under (.builtin "type.__call__" ⟨.ref C :: us, kw⟩)).depth = A.depth + 1 := by
  first | rfl | simp [Around.under, Code.weight, Code.isCreation, Code.isGuard, Code.isCaller, Code.frames, Code.isFrame, guardIds]
theorem make_units {A : Around} {C : Addr} {us : List Value} {kw : List (Str × Value)} : (A.under (.builtin "type.__call__" ⟨.ref C :: us, kw⟩)).units = A.units + 1 := by
  first | rfl | simp [Around.under, Code.cUnits, Code.frames, Code.isFrame]
theorem Room.make {k : Nat} {A : Around} (r : Room (k + 1) A) (C : Addr) (us : List Value) (kw : List (Str × Value)) : Room k (A.under (.builtin "type.__call__" ⟨.ref C :: us, kw⟩)) :=
  ⟨r.hd, by have := r.dp; rw [make_depth]; omega, by have := r.un; rw [make_units]; omega⟩
theorem Room.depth {k : Nat} {A : Around} (r : Room k A) : A.depth < recursionLimit := by have := r.dp; omega
theorem Room.units {k : Nat} {A : Around} (r : Room k A) : A.units + 64 < cLine := by have := r.un; omega

/-! ### argument lists and displays -/
def tNil : TA := fun _ H Q => Q [] H
def tCons (ta : TE) (tr : TA) : TA := fun σ H Q => ta σ H fun x H1 => tr σ H1 fun xs H2 => Q (x :: xs) H2
section
variable {X : Cx} {e : Expr} {es : List Expr} {te : TE} {t : TA} {pos : Pos}
theorem pa_nil : PA X [] tNil := fun _ _ _ _ H Q I h => Calls.spliced_nil ⟨[], H, I, .nil, h⟩
theorem pa_cons (ha : PE X e te) (hr : PA X es t) (hs : starEach (e :: es) X.env = (false, eval e X.env) :: starEach es X.env := by rfl) : PA X (e :: es) (tCons te t) := by
  intro pos pins s σ H Q I h
  rw [hs]
  show wpAny _ _ (spliced ((false, eval e X.env) :: backTo pos (starEach es X.env))) _ _ s
  refine Calls.spliced_cons (thn (ha pins s σ H _ I h) fun u s1 ⟨x, H1, I1, r1, q1⟩ => ?_)
  exact thn (hr pos pins s1 σ H1 _ I1 q1) fun us s2 ⟨xs, H2, I2, r2, q2⟩ => ⟨x :: xs, H2, I2, .cons r1 r2, q2⟩

/-- a tuple, a list of written items -/
def tTup (t : TA) : TE := fun σ H Q => t σ H fun xs H1 => xs.length ≤ sizeLine ∧ ∀ p, H1 p = none → Q (.ref p) (upd H1 p (.tup xs))
def tLst (t : TA) : TE := fun σ H Q => t σ H fun xs H1 => xs.length ≤ sizeLine ∧ ∀ p, H1 p = none → Q (.ref p) (upd H1 p (.lst xs))
theorem pe_tup {x1} (h : PA X es t) : PE X (.Tuple es x1 pos) (tTup t) := by
  intro pins s σ H Q I hq
  refine wpAny_Tuple_spliced (thn (h pos pins s σ H _ I hq) fun us s1 ⟨xs, H1, I1, r, z, q⟩ => ⟨by rw [← r.length]; exact z, ?_⟩)
  have hf : H1 s1.heap.objs.size = none := I1.hok.fresh (Nat.le_refl _)
  refine ⟨.ref s1.heap.objs.size, upd H1 s1.heap.objs.size (.tup xs), I1.laid (t' := s1.toks) (fun b u e => Heap.get?_push_of_some _ e) (Nat.le_refl _) ?_, rfl, q _ hf⟩
  exact ⟨z, us, r, ⟨_, Heap.get?_push_size _ rfl, rfl, _, rfl⟩⟩
theorem pe_lst (h : PA X es t) : PE X (.List es pos) (tLst t) := by
  intro pins s σ H Q I hq
  refine wpAny_List_spliced (thn (h pos pins s σ H _ I hq) fun us s1 ⟨xs, H1, I1, r, z, q⟩ => ⟨by rw [← r.length]; exact z, ?_⟩)
  have hf : H1 s1.heap.objs.size = none := I1.hok.fresh (Nat.le_refl _)
  refine ⟨.ref s1.heap.objs.size, upd H1 s1.heap.objs.size (.lst xs), I1.laid (t' := s1.toks) (fun b u e => Heap.get?_push_of_some _ e) (Nat.le_refl _) ?_, rfl, q _ hf⟩
  exact ⟨z, us, 0, r, Heap.get?_push_size _ rfl⟩
end

/-! ### what a def promises -/
/-- a def's promise: the bound arguments in the parameters' order, the heap, the wanted end, the wanted exception -/
abbrev Sp := List V → Hp → VK → XK → Prop
/-- how an exception lies behind a call (file 08 gives it): the callers' frames, abstract heap and state ahead of the call, the wish, the exception, the state -/
abbrev CXT := List Env → Hp → Shared → XK → Value → Shared → Prop

/-- the state at a call -/
structure Env0 (P : Program) (w : World) (K : PySem.W.Frag) (mg : Str → Option Value) (base : Heap) (A : Around) (outer : List Env) (s : Shared) (H : Hp) : Prop where
  frames : A.frames = some outer
  mod : Mod K mg base
  bs : ∀ b o, base.get? b = some o → s.heap.get? b = some o ∧ H b = none
  bsz : base.objs.size ≤ s.heap.objs.size
  funs : s.heap.FunFrames base outer
  frf : ∀ b ∈ frs outer, H b = none
  hok : HOk P w H s.heap
  bare : AllBare s.gens
/-- a call's end -/
def CE (outer : List Env) (P : Program) (w : World) (H : Hp) (s : Shared) (Q : VK) (u : Value) (s' : Shared) : Prop :=
  ∃ v H', s'.os = s.os ∧ AllBare s'.gens ∧ Un (frs outer) [] H H' s.heap s'.heap ∧ HOk P w H' s'.heap ∧ RelV v u ∧ Q v H'
def CR (CX : CXT) (outer : List Env) (P : Program) (w : World) (H : Hp) (s : Shared) (Q : VK) (E : XK) (r : Result) (s' : Shared) : Prop :=
  match r with
  | .ok (.ret u) => CE outer P w H s Q u s'
  | .ok _ => False
  | .error e => CX outer H s E e s'
structure FnOk (P : Program) (w : World) (K : PySem.W.Frag) (mg : Str → Option Value) (base : Heap) (CX : CXT) (k : Nat) (f : Addr) (fd : FuncData) (ps : List Str) (sp : Sp) : Prop where
  len : ∀ vs H Q E, sp vs H Q E → vs.length = ps.length
  run : ∀ (A : Around) (outer : List Env) (s : Shared) (H : Hp) (args : Args) (us : List Value) (vs : List V) (Q : VK) (E : XK), Room k A → Env0 P w K mg base A outer s H → BindsTo s fd args (ps.zip us) → Vals vs us → sp vs H Q E →
    codeAny (model P w) A (.call (.ref f) args) (CR CX outer P w H s Q E) s

theorem Env0.make {P : Program} {w : World} {K : PySem.W.Frag} {mg : Str → Option Value} {base : Heap} {A : Around} {outer : List Env} {s : Shared} {H : Hp} (e : Env0 P w K mg base A outer s H) (C : Addr) (us : List Value) (kw : List (Str × Value)) :
    Env0 P w K mg base (A.under (.builtin "type.__call__" ⟨.ref C :: us, kw⟩)) outer s H := ⟨by first | exact e.frames | (simpa [Around.under, Code.envs, Code.isFrame, pushEnvs] using e.frames), e.mod, e.bs, e.bsz, e.funs, e.frf, e.hok, e.bare⟩

section
variable {X : Cx} {pins : List (Addr × Obj)} {σ : St} {H : Hp} {s s' : Shared}
/-- from a body: what a callee wants -/
theorem Inv.env0 (I : Inv X pins σ H s) : Env0 X.prog X.w X.K X.mg X.base X.A X.stack s H :=
  ⟨I.ok.frames, I.ok.mod, I.bs, Nat.le_trans I.ok.bsz I.sz, I.stack, I.stkFree, I.hok, I.bare⟩
/-- behind a call -/
theorem Inv.after {Q : VK} {u : Value} (I : Inv X pins σ H s) (h : CE X.stack X.prog X.w H s Q u s') : EP X pins σ Q u s' := by
  obtain ⟨v, H', os, bare, un, hok, r, q⟩ := h
  obtain ⟨hh, g, d, t, os'⟩ := s'
  obtain rfl : os' = s.os := os
  exact ⟨v, H', I.call (h' := hh) (g' := g) (d' := d) (t' := t) (ch := []) un hok bare (fun b z => absurd z (by simp)), r, q⟩
end

/-! ### calls -/
/-- f(..): the written arguments, then the defaults dvs; E: what is wanted of an exception -/
def tCall (sp : Sp) (dvs : List V) (E : XK) (t : TA) : TE := fun σ H Q => t σ H fun vs H1 => sp (vs ++ dvs) H1 Q E

/-- how the parameters are bound: us the positional arguments, kw the keywords' values by name, ds the defaults that fill up -/
def Binds (K : PySem.W.Frag) (fd : FuncData) (ps : List Str) (ds : List Value) : Prop :=
  ∀ (s : Shared) (us : List Value), K.In s.heap → (us ++ ds).length = ps.length → BindsTo s fd ⟨us, []⟩ (ps.zip (us ++ ds))
/-- every parameter is given -/
theorem Binds.all {K : PySem.W.Frag} {fd : FuncData} {ps : List Str} (h : ∀ us : List Value, us.length = ps.length → bindArgs fd ⟨us, []⟩ = pure (ps.zip us)) : Binds K fd ps [] := fun s us _ hl => by
  rw [List.append_nil] at hl ⊢
  exact .of_eq (h us hl)

/-- an exception of a callee reaches what this body wants of exceptions -/
def Passes (CX : CXT) (X : Cx) (E : XK) : Prop := ∀ (pins : List (Addr × Obj)) (σ : St) (H : Hp) (s : Shared) (e : Value) (s' : Shared), Inv X pins σ H s → CX X.stack H s E e s' → X.xe e s'

section
variable {X : Cx} {CX : CXT} {k : Nat} {f C : Addr} {fd : FuncData} {ps : List Str} {sp : Sp} {dvs : List V} {ds : List Value} {E : XK} {x m : Str} {p pos apos : Pos} {e o : Expr} {es : List Expr} {ta : TE} {t : TA}

/-- the callee runs -/
theorem run_fn {pins : List (Addr × Obj)} {σ : St} {H : Hp} {s : Shared} {Q : VK} {us : List Value} {vs : List V} (F : FnOk X.prog X.w X.K X.mg X.base CX k f fd ps sp) (hr : Room k X.A) (hb : Binds X.K fd ps ds) (hd : Vals dvs ds) (hx : Passes CX X E)
    (I : Inv X pins σ H s) (r : Vals vs us) (h : sp (vs ++ dvs) H Q E) : wpAny (model X.prog X.w) X.A (call (.ref f) us) (EP X pins σ Q) X.xe s := by
  have r2 : Vals (vs ++ dvs) (us ++ ds) := r.append hd
  have hl : (us ++ ds).length = ps.length := by rw [← r2.length]; exact F.len _ _ _ _ h
  refine wpAny_call (codeAny_mono (F.run X.A X.stack s H ⟨us, []⟩ (us ++ ds) (vs ++ dvs) Q E hr I.env0 (hb s us I.kIn hl) r2 h) fun r s' hq => ?_)
  cases r with
  | error e => exact hx pins σ H s e s' I hq
  | ok fl =>
    cases fl with
    | ret u => exact I.after hq
    | next => exact False.elim hq
    | brk => exact False.elim hq
    | cont => exact False.elim hq

theorem pe_call (F : FnOk X.prog X.w X.K X.mg X.base CX k f fd ps sp) (hr : Room k X.A) (hg : Gl X x) (hm : X.mg x = some (.ref f)) (hk : PySem.W.keepIn X.K (.ref f) = true) (hb : Binds X.K fd ps ds) (hd : Vals dvs ds) (hx : Passes CX X E)
    (ha : PA X (e :: es) t) (hdb : (x == ("__debug__" : Str)) = false := by decide) (he : starEach (e :: es) X.env = (false, eval e X.env) :: starEach es X.env := by rfl) (hpl : (backTo pos (starEach es X.env)).any (·.1) = false := by rfl) :
    PE X (.Call (.Name x p) (e :: es) [] pos) (tCall sp dvs E t) := by
  intro pins s σ H Q I h
  refine wpAny_Call_Name_kw (ld_glob I hg hm ?_ hdb)
  refine PySem.W.callWith_K (h₀ := X.base) I.ok.mod.kin hk (thn (ha pos pins s σ H _ I h) fun us s1 ⟨vs, H1, I1, r, q⟩ => ⟨I1.kIn, ?_⟩) he hpl
  exact run_fn F hr hb hd hx I1 r q



end

/-! ### keywords -/
section
variable {X : Cx} {CX : CXT} {k : Nat} {f C : Addr} {fd : FuncData} {ps ks : List Str} {sp : Sp} {E : XK} {x m : Str} {p pos apos kpos : Pos} {e o : Expr} {es : List Expr} {kws : List Keyword} {te ta : TE} {t tk : TA} {nm : Option Str}

variable {g : List Value → List Value → List Value} {gV : List V → List V → List V}
end

/-! ### a def's body keeps its promise -/
/-- names: the parameters first -/
structure FnScope (N P : List Str) (sc : Scope) : Prop where
  kind : sc.kind = .function
  co : sc.isCoroutine = false
  gen : sc.isGenerator = false
  nd : N.Nodup
  pre : N.take P.length = P
  par : ∀ x ∈ P, sc.names.lookup x = some .local ∨ sc.names.lookup x = some .cell
  nofree : ∀ y ∈ sc.names, y.2 ≠ .free

theorem bindL_out {kindOf : Str → Option NameKind} {x : Str} : ∀ {binds : List (Str × Value)} {m : Str → Option Value}, (∀ v, (x, v) ∉ binds) → bindL kindOf binds m x = m x
  | [], _, _ => rfl
  | (n, v) :: r, m, h => by
    unfold bindL
    rw [bindL_out fun w hw => h w (List.mem_cons_of_mem _ hw)]
    split
    · have : x ≠ n := by rintro rfl; exact h v List.mem_cons_self
      simp [this]
    · rfl
theorem bindC_out {kindOf : Str → Option NameKind} {x : Str} : ∀ {binds : List (Str × Value)} {m : Str → Option Value}, (∀ v, (x, v) ∉ binds) → bindC kindOf binds m x = m x
  | [], _, _ => rfl
  | (n, v) :: r, m, h => by
    unfold bindC
    rw [bindC_out fun w hw => h w (List.mem_cons_of_mem _ hw)]
    split
    · rfl
    · have : x ≠ n := by rintro rfl; exact h v List.mem_cons_self
      simp [this]
theorem bindL_get {kindOf : Str → Option NameKind} {x : Str} {v : Value} : ∀ {P : List Str} {vs : List Value} {i : Nat} {m : Str → Option Value}, P.Nodup → P[i]? = some x → vs[i]? = some v → kindOf x = some .local →
    bindL kindOf (P.zip vs) m x = some v
  | [], _, _, _, _, h, _, _ => by simp at h
  | _ :: _, [], _, _, _, _, h, _ => by simp at h
  | p :: P, w :: vs, 0, m, nd, h1, h2, hk => by
    simp at h1 h2; subst h1; subst h2
    show bindL kindOf ((p, w) :: P.zip vs) m p = _
    unfold bindL
    rw [bindL_out fun v hv => (List.nodup_cons.mp nd).1 (List.of_mem_zip hv).1, if_pos hk]
    simp
  | p :: P, w :: vs, i + 1, m, nd, h1, h2, hk => by
    show bindL kindOf ((p, w) :: P.zip vs) m x = _
    unfold bindL
    exact bindL_get (i := i) (List.nodup_cons.mp nd).2 (by simpa using h1) (by simpa using h2) hk
theorem bindC_get {kindOf : Str → Option NameKind} {x : Str} {v : Value} : ∀ {P : List Str} {vs : List Value} {i : Nat} {m : Str → Option Value}, P.Nodup → P[i]? = some x → vs[i]? = some v → kindOf x ≠ some .local →
    bindC kindOf (P.zip vs) m x = some v
  | [], _, _, _, _, h, _, _ => by simp at h
  | _ :: _, [], _, _, _, _, h, _ => by simp at h
  | p :: P, w :: vs, 0, m, nd, h1, h2, hk => by
    simp at h1 h2; subst h1; subst h2
    show bindC kindOf ((p, w) :: P.zip vs) m p = _
    unfold bindC
    rw [bindC_out fun v hv => (List.nodup_cons.mp nd).1 (List.of_mem_zip hv).1, if_neg hk]
    simp
  | p :: P, w :: vs, i + 1, m, nd, h1, h2, hk => by
    show bindC kindOf ((p, w) :: P.zip vs) m x = _
    unfold bindC
    exact bindC_get (i := i) (List.nodup_cons.mp nd).2 (by simpa using h1) (by simpa using h2) hk

/-- the names' values at the entry -/
def start (N : List Str) (vs : List V) : St := vs.map some ++ List.replicate (N.length - vs.length) none

/-- the context of a def's body, at its entry; an exception leaves the frame, then lies as CX says -/
def cxOf (CX : CXT) (P : Program) (w : World) (K : PySem.W.Frag) (mg : Str → Option Value) (base : Heap) (N : List Str) (qual : Str) (scope : Scope) (f : Addr) (cd : Value) (A : Around) (outer : List Env) (s : Shared) (H : Hp) (E : XK) : Cx where
  prog := P
  w := w
  K := K
  mg := mg
  base := base
  A := A.deeper (envOfC qual scope s.heap.objs.size f cd)
  N := N
  s₀ := s
  H₀ := H
  env := envOfC qual scope s.heap.objs.size f cd
  outer := outer
  stack := envOfC qual scope s.heap.objs.size f cd :: outer
  ex := []
  calm := true
  fn := fun _ => true
  pn := []
  xe := fun e s' => wpAny (model P w) (A.deeper (envOfC qual scope s.heap.objs.size f cd)) (leaving (envOfC qual scope s.heap.objs.size f cd) e) (fun _ s'' => CX outer H s E e s'') (fun e' s'' => CX outer H s E e' s'') s'

theorem cell_has {sc : Scope} {n : Nat} {x : Str} (h : sc.names.lookup x = some .cell) : ∃ c, (cellsFrom n sc.names []).lookup x = some c := by
  have q := PySem.W.cellsFrom_some sc.names n [] (.inl h)
  exact Option.isSome_iff_exists.mp q

theorem inv_start {CX : CXT} {P : Program} {w : World} {K : PySem.W.Frag} {mg : Str → Option Value} {base : Heap} {N ps : List Str} {qual : Str} {scope : Scope} {f : Addr} {cd : Value} {A : Around} {outer : List Env} {s s1 : Shared} {H : Hp} {E : XK} {us : List Value} {vs : List V}
    (S : FnScope N ps scope) (hd : A.handled = none) (e0 : Env0 P w K mg base A outer s H) (hl : vs.length = ps.length) (r : Vals vs us)
    (x : InCallC s s.heap.objs.size (bindL (envOfC qual scope s.heap.objs.size f cd).kindOf (ps.zip us) fun _ => none) (cellsFrom (s.heap.objs.size + 1) scope.names []) (bindC (envOfC qual scope s.heap.objs.size f cd).kindOf (ps.zip us) fun _ => none) s1) :
    Inv (cxOf CX P w K mg base N qual scope f cd A outer s H E) [] (start N vs) H s1 := by
  have hpl : ps.length ≤ N.length := by have := congrArg List.length S.pre; rw [List.length_take] at this; omega
  obtain ⟨h1, tk, rfl, hk⟩ := x.done
  have noA : ∀ b : Addr, b ∉ (cxOf CX P w K mg base N qual scope f cd A outer s H E).ex := fun b z => absurd (show b ∈ ([] : List Addr) from z) (by simp)
  refine ⟨⟨e0.mod, S.kind, rfl, rfl, Nat.le_refl _, fun y z c h1 h2 => ?_, fun y hy => ?_, fun y c _ h => ?_, fun _ => hd, Around.frames_deeper e0.frames, .inr ⟨rfl, rfl⟩, fun b z => absurd z (noA b), e0.bs, e0.bsz, fun b _ _ => noA b, fun b z => absurd z (noA b), e0.funs, e0.frf⟩,
    rfl, e0.bare, Un.kept hk, ⟨_, x.toInCall.ns, fun i y v h1 h2 h3 => ?_⟩, fun y c h => ⟨_, x.cell y c h⟩, e0.hok.fresh (Nat.le_refl _), fun y c h => ?_, fun p hp => absurd (show p ∈ ([] : List (Addr × Obj)) from hp) (by simp), e0.hok.kept hk, ?_⟩
  · exact name_of_addr x.apart (PySem.mem_of_lookup h1) (PySem.mem_of_lookup h2)
  · have hy : scope.names.lookup y = some .cell ∨ scope.names.lookup y = some .free := hy
    rcases hy with hy | hy
    · exact cell_has hy
    · exact absurd rfl (S.nofree _ (PySem.mem_of_lookup hy))
  · exact Nat.le_of_lt (x.above y c (PySem.mem_of_lookup h))
  · have hi : i < vs.length := by
      unfold start at h2
      by_cases hi : i < vs.length
      · exact hi
      · rw [List.getElem?_append_right (by simpa using hi)] at h2
        rw [List.getElem?_replicate] at h2
        split at h2 <;> cases h2
    have ha : vs[i]? = some v := by
      unfold start at h2
      rw [List.getElem?_append_left (by simpa using hi), List.getElem?_map] at h2
      cases e : vs[i]? with
      | none => rw [e] at h2; cases h2
      | some a => rw [e] at h2; cases h2; rfl
    obtain ⟨u, hu, rv⟩ := r.get ha
    have hp : ps[i]? = some y := by
      rw [← S.pre, List.getElem?_take_of_lt (by omega)]; exact h1
    have ndP : ps.Nodup := by rw [← S.pre]; exact S.nd.sublist (List.take_sublist _ _)
    refine ⟨u, rv, ?_⟩
    rcases S.par y (List.mem_of_getElem? hp) with k | k
    · exact .inl ⟨k, bindL_get ndP hp hu k⟩
    · obtain ⟨c, e⟩ := cell_has (n := s.heap.objs.size + 1) k
      refine .inr ⟨.inl k, c, e, ?_⟩
      have q := x.cell y c e
      rw [bindC_get ndP hp hu (by show scope.names.lookup y ≠ _; rw [k]; decide)] at q
      exact q
  · exact e0.hok.fresh (Nat.le_of_lt (x.above y c (PySem.mem_of_lookup h)))
  · unfold start
    show _ = N.length
    rw [List.length_append, List.length_map, List.length_replicate]
    omega

/-- THE RULE: a def (or a method) of the text, by its body. The body's reading t is chosen for each entry; it is run at the parameters' values -/
theorem fn_of {CX : CXT} {P : Program} {w : World} {K : PySem.W.Frag} {mg : Str → Option Value} {base : Heap} {k : Nat} {f : Addr} {name qual : Str} {params : Arguments} {body : List Stmt} {scope : Scope} {dV kV doc pm cdv ct oc : Value} {an od : Option Addr}
    {osl : Array (Option Value)} {N ps : List Str} {sp : Sp} (lk : K.lookup f = some ⟨oc, od, .func (PySem.W.fnOf name qual params body scope dV kV doc pm an cdv ct), osl⟩) (hcd : PySem.W.codeIn K cdv qual = true) (S : FnScope N ps scope)
    (len : ∀ vs H Q E, sp vs H Q E → vs.length = ps.length)
    (hbody : ∀ (A : Around) (outer : List Env) (s : Shared) (H : Hp) (vs : List V) (Q : VK) (E : XK), Room k (A.deeper (envOfC qual scope s.heap.objs.size f cdv)) → sp vs H Q E →
      ∃ t, PSs (cxOf CX P w K mg base N qual scope f cdv A outer s H E) body t ∧ t { nx := fun _ H' => Q .non H', rt := Q } (start N vs) H) :
    FnOk P w K mg base CX (k + 1) f (PySem.W.fnOf name qual params body scope dV kV doc pm an cdv ct) ps sp := by
  refine ⟨len, fun A outer s H args us vs Q E hr e0 hb r hsp => ?_⟩
  have hl := len _ _ _ _ hsp
  have KX : K.In s.heap := e0.mod.kin.keeps fun b o e => (e0.bs b o e).1
  have lim : s.heap.NoLimit := e0.mod.nolimit.keeps fun b o e => (e0.bs b o e).1
  have hkind : ∀ y ∈ ps.zip us, scope.names.lookup y.1 = some .local ∨ (scope.names.lookup y.1 = some .cell ∧ ((cellsFrom (s.heap.objs.size + 1) scope.names []).lookup y.1).isSome = true) := fun ⟨n, v⟩ hy => by
    rcases S.par n (List.of_mem_zip hy).1 with q | q
    · exact .inl q
    · exact .inr ⟨q, PySem.W.cellsFrom_some _ _ _ (.inl q)⟩
  refine codeAny_call_function hr.depth (KX _ _ lk) rfl S.co S.gen rfl (PySem.W.codeRec_of KX hcd) (hb _ _ _ _ ?_)
  refine wpAny_newFunctionEnv_cells S.kind hkind fun env he s1 x => ?_
  subst he
  refine ⟨lim.keeps x.toInCall.keep, codeAny_func ?_⟩
  obtain ⟨t, ht, hq⟩ := hbody A outer s H vs Q E (hr.deeper _) hsp
  have I : Inv (cxOf CX P w K mg base N qual scope f cdv A outer s H E) [] (start N vs) H s1 := inv_start S hr.hd e0 hl r x
  refine wpAny_mono (ht [] s1 (start N vs) H _ I hq) (fun fl s' hs => ?_) fun e s' hs => hs
  have fin : ∀ {σ' : St} {H' : Hp} {v : V} {u : Value}, Inv (cxOf CX P w K mg base N qual scope f cdv A outer s H E) [] σ' H' s' → RelV v u → Q v H' → CE outer P w H s Q u s' :=
    fun {σ' H' v u} J rv q => ⟨v, H', J.os, J.bare, J.base, J.hok, rv, q⟩
  cases fl with
  | ret u =>
    obtain ⟨v, σ', H', J, rv, q⟩ := hs
    exact fin J rv q
  | next =>
    obtain ⟨σ', H', J, q⟩ := hs
    exact fin (v := V.non) (u := Value.none) J rfl q
  | brk =>
    obtain ⟨_, _, _, q⟩ := hs
    exact False.elim q
  | cont =>
    obtain ⟨_, _, _, q⟩ := hs
    exact False.elim q
end L2

namespace L2
open PySem PySem.Spec PyProof.Rows
section
variable {X : Cx} {x : Str} {p pos : Pos} {e : Expr} {es : List Expr} {t : TA} {id T : String} {r : List V → Hp → VK → Prop}

def tCB (r : List V → Hp → VK → Prop) (t : TA) : TE := fun σ H Q => t σ H fun vs H1 => r vs H1 Q
/-- f(e, ..), f a built-in function -/
theorem pe_callB (hc : CallR X (.builtin id) r) (hg : Gl X x) (hm : X.mg x = none) (hv : bootBuiltins x = some (.builtin id)) (ha : PA X (e :: es) t) (hn : x ≠ "__name__" := by decide) (hdb : (x == ("__debug__" : Str)) = false := by decide)
    (he : starEach (e :: es) X.env = (false, eval e X.env) :: starEach es X.env := by rfl) (hpl : (backTo pos (starEach es X.env)).any (·.1) = false := by rfl) : PE X (.Call (.Name x p) (e :: es) [] pos) (tCB r t) := by
  intro pins s σ H Q I h
  refine wpAny_Call_Name_kw (ld_blt I hg hm hv ?_ hn hdb)
  exact PyProof.Rows.callWith_builtin1 (thn (ha pos pins s σ H _ I h) fun us s1 ⟨vs, H1, I1, r1, q1⟩ => hc pins s1 σ H1 vs us Q I1 r1 q1) he hpl
/-- T(e, ..), T a built-in type -/
theorem pe_callTy (hc : CallR X (.type T) r) (hg : Gl X x) (hm : X.mg x = none) (hv : bootBuiltins x = some (.type T)) (ha : PA X (e :: es) t) (hn : x ≠ "__name__" := by decide) (hdb : (x == ("__debug__" : Str)) = false := by decide)
    (he : starEach (e :: es) X.env = (false, eval e X.env) :: starEach es X.env := by rfl) (hpl : (backTo pos (starEach es X.env)).any (·.1) = false := by rfl) : PE X (.Call (.Name x p) (e :: es) [] pos) (tCB r t) := by
  intro pins s σ H Q I h
  refine wpAny_Call_Name_kw (ld_blt I hg hm hv ?_ hn hdb)
  exact PyProof.Rows.callWith_type1 (thn (ha pos pins s σ H _ I h) fun us s1 ⟨vs, H1, I1, r1, q1⟩ => hc pins s1 σ H1 vs us Q I1 r1 q1) he hpl
end
end L2

namespace HT
open PySem PyProof.Rows



section
open PySem.SeqAt
open PySem.AutoSeq1 (wpAny_loadPart')
open PySem.MeetsSeq PySem.MeetsSeq2 PySem.MeetsSeq3

end

section
variable {prog : Program} {w : World} {A : Around} {E : Value → Shared → Prop} {s : Shared}



/-! ### t[a:b], not the whole -/
/-- a slice's bound as a place among n (d where it is left out) -/
def sIx (n d : Nat) : Option Int → Nat
  | none => d
  | some v => if v < 0 then (v + (n : Int)).toNat else min v.toNat n
theorem sIx_none (n d : Nat) : sIx n d none = d := rfl
theorem sIx_nat (n d k : Nat) : sIx n d (some (k : Int)) = min k n := by
  show (if (k : Int) < 0 then ((k : Int) + (n : Int)).toNat else min (k : Int).toNat n) = min k n
  rw [if_neg (by omega), Int.toNat_natCast]

end
end HT

namespace L2
open PySem PySem.Spec PyProof.Rows

/-! ### the parts of a slice -/
abbrev TO := St → Hp → (Option Int → Hp → Prop) → Prop
/-- a slice's part (left out, or an int) -/
def PO (X : Cx) (e : Option Expr) (t : TO) : Prop :=
  ∀ (pins : List (Addr × Obj)) (s : Shared) (σ : St) (H : Hp) (Q : Option Int → Hp → Prop), Inv X pins σ H s → t σ H Q →
    wpAny (model X.prog X.w) X.A (evalPart e X.env) (fun u s' => ∃ o H', Inv X pins σ H' s' ∧ IsPart u o ∧ Q o H') X.xe s
def tNoPart : TO := fun _ H Q => Q none H
def tPart (t : TE) : TO := fun σ H Q => t σ H fun x H1 => ∃ i, x = .int i ∧ Q (some i) H1


section
variable {X : Cx} {e : Expr} {te : TE} {lo hi : Option Expr} {tl th : TO} {pos p2 : Pos}

theorem po_none : PO X none tNoPart := by
  intro pins s σ H Q I h
  rw [evalPart_none]
  exact wpAny_pure ⟨none, H, I, .none, h⟩
theorem po_some (h : PE X e te) : PO X (some e) (tPart te) := by
  intro pins s σ H Q I hw
  rw [evalPart_some]
  refine thn (h pins s σ H _ I hw) fun u s1 ⟨x, H1, I1, r1, q1⟩ => ?_
  obtain ⟨i, rfl, q⟩ := q1
  obtain ⟨t, rfl⟩ := r1
  exact ⟨some i, H1, I1, .int i t, q⟩

/-- what a slice of a value is, by values: the slice object stands at sl -/
def SlR (X : Cx) (r : V → Option Int → Option Int → Hp → VK → Prop) : Prop :=
  ∀ (pins : List (Addr × Obj)) (s : Shared) (σ : St) (H : Hp) (x : V) (v vl vu : Value) (lo hi : Option Int) (sl : Addr) (Q : VK), Inv X pins σ H s → RelV x v → s.heap.IsSliceOf sl vl vu .none → IsPart vl lo → IsPart vu hi → r x lo hi H Q →
    ∃ T id, typeLookup (.type T) "__getitem__" = pure (some (.builtin id)) ∧ s.TypeIs v T ∧ wpAny (model X.prog X.w) X.A (getItem v (.ref sl)) (EP X pins σ Q) X.xe s
def tSl (r : V → Option Int → Option Int → Hp → VK → Prop) (te : TE) (tl th : TO) : TE := fun σ H Q => te σ H fun x H1 => tl σ H1 fun l H2 => th σ H2 fun u H3 => r x l u H3 Q
/-- a[lo:hi], any a -/
theorem pe_slice {r : V → Option Int → Option Int → Hp → VK → Prop} (hr : SlR X r) (he : PE X e te) (hl : PO X lo tl) (hu : PO X hi th) : PE X (.Subscript e (.Slice lo hi none p2) pos) (tSl r te tl th) := by
  intro pins s σ H Q I h
  refine Subscript_ (thn (he pins s σ H _ I h) fun v s1 ⟨x, H1, I1, r1, q1⟩ => ?_)
  refine wpAny_Slice (thn (hl pins s1 σ H1 _ I1 q1) fun vl s2 ⟨l, H2, I2, pl, q2⟩ => thn (hu pins s2 σ H2 _ I2 q2) fun vu s3 ⟨u, H3, I3, pu, q3⟩ => ?_)
  rw [evalPart_none]
  refine wpAny_pure ?_
  have I4 : Inv X pins σ H3 { s3 with heap := s3.heap.push { cls := .type "slice", data := .fields #[vl, vu, .none] } } := I3.kept (t' := s3.toks) fun b ob q => Heap.get?_push_of_some _ q
  obtain ⟨T, id, hT, ht, hg⟩ := hr pins { s3 with heap := s3.heap.push { cls := .type "slice", data := .fields #[vl, vu, .none] } } σ H3 x v vl vu l u s3.heap.objs.size Q I4 r1 (Heap.IsSliceOf.new ..) pl pu q3
  show wpAny (model X.prog X.w) X.A (subscriptTail e (.Slice lo hi none p2) v (.ref s3.heap.objs.size)) (EP X pins σ Q) X.xe { s3 with heap := s3.heap.push { cls := .type "slice", data := .fields #[vl, vu, .none] } }
  exact tail_any (ops := [.ref s3.heap.objs.size, v]) ht hT hg (by with_unfolding_all rfl)

/-- the items of xs[lo:hi] -/
def cutV (xs : List V) (lo hi : Option Int) : List V := (xs.drop (HT.sIx xs.length 0 lo)).take (HT.sIx xs.length xs.length hi - HT.sIx xs.length 0 lo)
theorem cutV_length (xs : List V) (lo hi : Option Int) : (cutV xs lo hi).length ≤ xs.length := by
  unfold cutV
  rw [List.length_take, List.length_drop]
  omega

/-! ### t < u, t + u -/
end
end L2

namespace L2
open PySem PySem.Spec PyProof.Rows

/-! ### places -/
/-- the place that an index of any sign means -/
def ixN (n : Nat) (i : Int) : Option Nat := if 0 ≤ i then (if i < n then some i.toNat else none) else if -(n : Int) ≤ i then some (i + n).toNat else none
def atI {α : Type} (xs : List α) (i : Int) : Option α := (ixN xs.length i).bind fun j => xs[j]?
theorem ixN_seq {n : Nat} {i : Int} {j : Nat} (h : ixN n i = some j) : seqIndex? i n = some j ∧ j < n ∧ -(n : Int) ≤ i ∧ i < n := by
  unfold ixN at h
  by_cases h0 : 0 ≤ i
  · rw [if_pos h0] at h
    by_cases h1 : i < n
    · rw [if_pos h1] at h
      have e : i.toNat = j := Option.some.inj h
      exact ⟨by rw [seqIndex_of h0 h1, e], by omega, by omega, h1⟩
    · rw [if_neg h1] at h; cases h
  · rw [if_neg h0] at h
    by_cases h1 : -(n : Int) ≤ i
    · rw [if_pos h1] at h
      have e : (i + n).toNat = j := Option.some.inj h
      exact ⟨by rw [seqIndex_neg (by omega) h1, e], by omega, h1, by omega⟩
    · rw [if_neg h1] at h; cases h
theorem atI_get {α : Type} {xs : List α} {i : Int} {v : α} (h : atI xs i = some v) : ∃ j, seqIndex? i xs.length = some j ∧ xs[j]? = some v ∧ j < xs.length ∧ -(xs.length : Int) ≤ i ∧ i < xs.length := by
  unfold atI at h
  cases e : ixN xs.length i with
  | none => rw [e] at h; cases h
  | some j =>
    rw [e] at h
    obtain ⟨h1, h2, h3, h4⟩ := ixN_seq e
    exact ⟨j, h1, h, h2, h3, h4⟩
theorem atI_nat {α : Type} {xs : List α} {j : Nat} {v : α} (h : xs[j]? = some v) : atI xs (j : Int) = some v := by
  have hj : j < xs.length := (List.getElem?_eq_some_iff.mp h).1
  have e : ixN xs.length (j : Int) = some j := by
    unfold ixN
    rw [if_pos (by omega), if_pos (by omega)]; simp
  unfold atI; rw [e]; exact h

/-! ### what may be subscripted -/
/-- what stands as an index of a plain subscript -/
def PlainIx (b : Expr) : Prop := ∀ o i, subscripted b false o i = operate [o, i] (getItem o i)
/-- a subscript by values -/
def IxR (X : Cx) (r : R2) : Prop :=
  ∀ (value slice : Expr) (pins : List (Addr × Obj)) (s : Shared) (σ : St) (H : Hp) (x y : V) (v u : Value) (Q : VK), Inv X pins σ H s → RelV x v → RelV y u → r x y H Q →
    subscripted slice false v u = operate [v, u] (getItem v u) → wpAny (model X.prog X.w) X.A (subscriptTail value slice v u) (EP X pins σ Q) X.xe s
/-- a call of a builtin's method by values: the receiver, the arguments -/
def MtR (X : Cx) (id : String) (r : V → List V → Hp → VK → Prop) : Prop :=
  ∀ (pins : List (Addr × Obj)) (s : Shared) (σ : St) (H : Hp) (x : V) (xs : List V) (v : Value) (us : List Value) (Q : VK), Inv X pins σ H s → RelV x v → Vals xs us → r x xs H Q →
    wpAny (model X.prog X.w) X.A (call (.builtin id) (v :: us)) (EP X pins σ Q) X.xe s
section
variable {X : Cx} {a b : Expr} {ta tb : TE} {pos : Pos}
/-- a[b] -/
theorem pe_ix {r : R2} (hr : IxR X r) (ha : PE X a ta) (hb : PE X b tb) (hs : PlainIx b) : PE X (.Subscript a b pos) (tOp r ta tb) := by
  intro pins s σ H Q I h
  exact Subscript_ (binT ha hb I h fun v u s2 x y H2 I2 rx ry q => hr a b pins s2 σ H2 x y v u Q I2 rx ry q (hs _ _))

def rIxL (K : PySem.W.Frag) : R2 := fun x y H Q => ∃ p xs i v, x = .ref p ∧ y = .int i ∧ SqL K H p xs ∧ atI xs i = some v ∧ Q v H
def rIxT (K : PySem.W.Frag) : R2 := fun x y H Q => ∃ p xs i v, x = .ref p ∧ y = .int i ∧ SqT K H p xs ∧ atI xs i = some v ∧ Q v H
theorem ix_list : IxR X (rIxL X.K) := by
  intro value slice pins s σ H x y v u Q I rx ry h hs
  obtain ⟨p, xs, i, z, rfl, rfl, hq, he, q⟩ := h
  cases rx
  obtain ⟨t, rfl⟩ := ry
  obtain ⟨its, r, pl, hz⟩ := I.list hq
  obtain ⟨j, h1, h2, h3, h4, h5⟩ := atI_get he
  obtain ⟨w, ew, rw'⟩ := r.get h2
  have hl := r.length
  have hn := line63
  have fin : EP X pins σ Q w s := ⟨z, H, I, rw', q⟩
  by_cases h0 : 0 ≤ i
  · have hj : i.toNat = j := by
      rw [seqIndex_of h0 h5] at h1
      exact Option.some.inj h1
    exact item_listR pl.isList h0 (by omega) (by rw [hj]; simpa using ew) fin hs
  · have hj : (i + (its.toArray.size : Int)).toNat = j := by
      rw [seqIndex_neg (by omega) h4] at h1
      rw [List.size_toArray, ← hl]
      exact Option.some.inj h1
    exact subscriptTail_builtinR (x := w) pl.isList.typeIs slot_list_getitem.lookup
      (wpAny_getItem_list_neg (Q := fun r s' => r = w ∧ EP X pins σ Q r s') pl.isList (by omega) (by rw [List.size_toArray] <;> omega) (by omega) (by rw [hj]; simpa using ew) ⟨rfl, fin⟩) hs
theorem ix_tup : IxR X (rIxT X.K) := by
  intro value slice pins s σ H x y v u Q I rx ry h hs
  obtain ⟨p, xs, i, z, rfl, rfl, hq, he, q⟩ := h
  cases rx
  obtain ⟨t, rfl⟩ := ry
  obtain ⟨its, r, pl, hz⟩ := I.tuple hq
  obtain ⟨j, h1, h2, h3, h4, h5⟩ := atI_get he
  obtain ⟨w, ew, rw'⟩ := r.get h2
  have hl := r.length
  have hn := line63
  have fin : EP X pins σ Q w s := ⟨z, H, I, rw', q⟩
  exact subscriptTail_builtinR (x := w) pl.typeIs slot_tuple_getitem.lookup
    (getItem_tuple (j := j) (Q := fun r s' => r = w ∧ EP X pins σ Q r s') pl (by omega) (by omega) (by rw [List.size_toArray, ← hl]; exact h1) (by simpa using ew) ⟨rfl, fin⟩) hs

/-! ### xs[i] = v, any sign -/
/-- the list's object behind a store -/
theorem mapSeq_set (its : List Value) (n j : Nat) (u : Value) : Obj.mapSeq (·.setIfInBounds j u) { cls := .type "list", data := .seq its.toArray n } = { cls := .type "list", data := .seq (its.set j u).toArray n } := by
  simp [Obj.mapSeq]
theorem Inv.lst {pins : List (Addr × Obj)} {σ : St} {H : Hp} {s : Shared} {p : Addr} {xs : List V} (I : Inv X pins σ H s) (h : H p = some (.lst xs)) :
    ∃ (its : List Value) (n : Nat), Vals xs its ∧ s.heap.get? p = some { cls := .type "list", data := .seq its.toArray n } ∧ xs.length ≤ sizeLine := by
  obtain ⟨z, its, n, r, e⟩ := I.hok p _ h
  exact ⟨its, n, r, e, z⟩
/-- the list at p is written by an update of its object -/
theorem Inv.lstUpd {pins : List (Addr × Obj)} {σ : St} {H : Hp} {s : Shared} {p : Addr} {xs ys : List V} {its its' : List Value} {n n' : Nat} {f : Obj → Obj} (I : Inv X pins σ H s) (h : H p = some (.lst xs))
    (ho : s.heap.get? p = some { cls := .type "list", data := .seq its.toArray n }) (hf : f { cls := .type "list", data := .seq its.toArray n } = { cls := .type "list", data := .seq its'.toArray n' }) (r : Vals ys its') (hz : ys.length ≤ sizeLine) (t : Nat) :
    Inv X pins σ (upd H p (.lst ys)) { s with heap := s.heap.update p f, toks := t } := by
  have e : (s.heap.update p f).get? p = some { cls := .type "list", data := .seq its'.toArray n' } := by
    rw [Heap.get?_update_self f ho (by rw [hf] <;> rfl), hf]
  refine I.write (x := p) (e := p) (by rw [h]; trivial) (.inl rfl) (fun b u hb q => (Heap.get?_update_other _ _ (Ne.symm hb)).trans q) ⟨_, e⟩ ?_
  exact ⟨hz, its', n', r, e⟩
def rSetL : V → V → V → Hp → (Hp → Prop) → Prop := fun o i v H Q => ∃ p xs k j, o = .ref p ∧ i = .int k ∧ H p = some (.lst xs) ∧ ixN xs.length k = some j ∧ Q (upd H p (.lst (xs.set j v)))
theorem set_list : PSet X rSetL := by
  intro pins s σ H o i v ov iv u Q I ro ri rv h
  obtain ⟨p, xs, k, j, rfl, rfl, hp, hj, q⟩ := h
  cases ro
  obtain ⟨t, rfl⟩ := ri
  obtain ⟨its, n, r, ho, hz⟩ := I.lst hp
  obtain ⟨h1, h2, h3, h4⟩ := ixN_seq hj
  have hl := r.length
  have hn := line63
  have I' : Inv X pins σ (upd H p (.lst (xs.set j v))) { s with heap := s.heap.update p (Obj.mapSeq (·.setIfInBounds j u)) } :=
    I.lstUpd hp ho (mapSeq_set its n j u) (r.set rv j) (by rw [List.length_set]; exact hz) s.toks
  by_cases h0 : 0 ≤ k
  · have hk : k.toNat = j := by
      rw [seqIndex_of h0 h4] at h1
      exact Option.some.inj h1
    exact PySem.W.ki_setAt ho h0 (by omega) (by rw [List.size_toArray, ← hl]; exact h4) (by rw [hk]; exact ⟨_, I', q⟩)
  · have hk : (k + (its.toArray.size : Int)).toNat = j := by
      rw [seqIndex_neg (by omega) h3] at h1
      rw [List.size_toArray, ← hl]
      exact Option.some.inj h1
    exact PySem.W.ki_setBack ho (by omega) (by rw [List.size_toArray, ← hl]; exact h3) (by omega) (by rw [hk]; exact ⟨_, I', q⟩)

/-! ### slices -/
theorem slice_bounds (lo hi : Option Int) (n : Nat) : (sliceBounds lo hi none n).1 = ((HT.sIx n 0 lo : Nat) : Int) ∧ (sliceBounds lo hi none n).2.1 = ((HT.sIx n n hi : Nat) : Int) ∧ (sliceBounds lo hi none n).2.2 = 1 := by
  refine ⟨?_, ?_, rfl⟩
  · cases lo with
    | none => simp [sliceBounds, HT.sIx]
    | some i =>
      simp only [sliceBounds, HT.sIx, Option.getD_none, show (1 : Int) > 0 by decide, if_true]
      by_cases h : i < 0
      · simp only [h, if_true] <;> omega
      · simp only [h, if_false] <;> omega
  · cases hi with
    | none => simp [sliceBounds, HT.sIx]
    | some i =>
      simp only [sliceBounds, HT.sIx, Option.getD_none, show (1 : Int) > 0 by decide, if_true]
      by_cases h : i < 0
      · simp only [h, if_true] <;> omega
      · simp only [h, if_false] <;> omega
theorem slicePick_cut (its : List Value) (lo hi : Option Int) : slicePick its.toArray lo hi none = ((its.drop (HT.sIx its.length 0 lo)).take (HT.sIx its.length its.length hi - HT.sIx its.length 0 lo)).toArray := by
  obtain ⟨h1, h2, h3⟩ := slice_bounds lo hi its.toArray.size
  unfold slicePick
  rw [h1, h2, h3]
  simp only [sliceRange_one, pick_run, List.size_toArray] <;> rfl
/-- xs[lo:hi] of a list: a new list -/
def rSlL (K : PySem.W.Frag) : V → Option Int → Option Int → Hp → VK → Prop := fun x lo hi H Q => ∃ a xs, x = .ref a ∧ SqL K H a xs ∧ ∀ p, H p = none → Q (.ref p) (upd H p (.lst (cutV xs lo hi)))
theorem sl_list : SlR X (rSlL X.K) := by
  intro pins s σ H x v vl vu lo hi sl Q I rx hs pl pu h
  obtain ⟨a, xs, rfl, hx, q⟩ := h
  cases rx
  obtain ⟨its, r, ht, hz⟩ := I.list hx
  have hlen := r.length
  refine ⟨"list", _, slot_list_getitem.lookup, ht.isList.typeIs, ?_⟩
  refine wpAny_getItem_list_slice ht.isList hs pl pu .none (by simp) ?_ (by rw [List.size_toArray] <;> omega)
  rw [slicePick_cut, ← hlen]
  refine ⟨.ref s.heap.objs.size, _, I.laid (t' := s.toks) (o := .lst (cutV xs lo hi)) (fun b ob q => Heap.get?_push_of_some _ q) (Nat.le_refl _) ?_, rfl, q _ (I.hok.fresh (Nat.le_refl _))⟩
  exact ⟨Nat.le_trans (cutV_length xs lo hi) hz, _, 0, (r.drop (HT.sIx xs.length 0 lo)).take (HT.sIx xs.length xs.length hi - HT.sIx xs.length 0 lo), Heap.get?_push_size _ rfl⟩

/-! ### in, not in: flat items -/

/-! ### len, list(x), tuple(x) of any list or tuple that is read -/
theorem call_len_seq : CallR X (.builtin "len") (fun xs H Q => ∃ p ys, xs = [.ref p] ∧ (SqL X.K H p ys ∨ SqT X.K H p ys) ∧ Q (.int ys.length) H) := by
  intro pins s σ H xs us Q I r h
  obtain ⟨p, ys, rfl, hq, q⟩ := h
  obtain ⟨u, rfl, rx⟩ := vals1 r
  cases rx
  have hn := line63
  rcases hq with hq | hq
  · obtain ⟨its, r', pl, hz⟩ := I.list hq
    have hlen := r'.length
    exact Calls.call_len_list pl.isList (by simp only [List.size_toArray] <;> omega) ⟨.int ys.length, H, I.tok _, ⟨s.toks + 1, by rw [List.size_toArray, hlen]⟩, q⟩
  · obtain ⟨its, r', pl, hz⟩ := I.tuple hq
    have hlen := r'.length
    exact len_tuple pl (by simp only [List.size_toArray] <;> omega) ⟨.int ys.length, H, I.tok _, ⟨s.toks + 1, by rw [List.size_toArray, hlen]⟩, q⟩
theorem call_list_of : CallR X (.type "list") (fun xs H Q => ∃ p ys, xs = [.ref p] ∧ (SqL X.K H p ys ∨ SqT X.K H p ys) ∧ ∀ l, H l = none → Q (.ref l) (upd H l (.lst ys))) := by
  intro pins s σ H xs us Q I r h
  obtain ⟨p, ys, rfl, hq, q⟩ := h
  obtain ⟨u, rfl, rx⟩ := vals1 r
  cases rx
  have fin : ∀ (its : List Value), Vals ys its → ys.length ≤ sizeLine → ∀ (h' : Heap) (c' : Nat), (∀ b o', s.heap.get? b = some o' → h'.get? b = some o') →
      h'.get? s.heap.objs.size = some { cls := .type "list", dict := none, data := .seq its.toArray c', slots := #[] } → EP X pins σ Q (.ref s.heap.objs.size) { s with heap := h' } := fun its r' hz h' c' kp e =>
    ⟨.ref s.heap.objs.size, _, I.laid (t' := s.toks) kp (Nat.le_refl _) (show ObjOk X.prog X.w _ h' _ (.lst ys) from ⟨hz, its, c', r', e⟩), rfl, q _ (I.hok.fresh (Nat.le_refl _))⟩
  rcases hq with hq | hq
  · obtain ⟨its, r', pl, hz⟩ := I.list hq
    have hlen := r'.length
    obtain ⟨o, ho, hc, n, hd⟩ := pl.isList
    exact call_list_seq p (.inl rfl) ho hc hd (fun h' c' kp e => fin its r' hz h' c' kp e) (by simp only [List.size_toArray] <;> omega)
  · obtain ⟨its, r', pl, hz⟩ := I.tuple hq
    have hlen := r'.length
    obtain ⟨o, ho, hc, n, hd⟩ := pl
    exact call_list_seq p (.inr rfl) ho hc hd (fun h' c' kp e => fin its r' hz h' c' kp e) (by simp only [List.size_toArray] <;> omega)
theorem call_tuple_of : CallR X (.type "tuple") (fun xs H Q => ∃ p ys, xs = [.ref p] ∧ ((SqL X.K H p ys ∧ ∀ l, H l = none → Q (.ref l) (upd H l (.tup ys))) ∨ (SqT X.K H p ys ∧ Q (.ref p) H))) := by
  intro pins s σ H xs us Q I r h
  obtain ⟨p, ys, rfl, h⟩ := h
  obtain ⟨u, rfl, rx⟩ := vals1 r
  cases rx
  rcases h with ⟨hq, q⟩ | ⟨hq, q⟩
  · obtain ⟨its, r', pl, hz⟩ := I.list hq
    have hlen := r'.length
    refine call_tuple_list pl.isList (fun h' kp => ?_) (by simp only [List.size_toArray] <;> omega)
    have I1 : Inv X pins σ H { s with heap := h' } := I.kept (t' := s.toks) kp
    have I2 : Inv X pins σ (upd H h'.objs.size (.tup ys)) { s with heap := h'.push { cls := .type "tuple", data := .seq its.toArray } } :=
      I1.laid (t' := s.toks) (fun b o e => Heap.get?_push_of_some _ e) (Nat.le_refl _) (show ObjOk X.prog X.w _ _ _ (.tup ys) from ⟨hz, its, r', IsTup.new _ _⟩)
    exact ⟨.ref h'.objs.size, _, I2, rfl, q _ (I1.hok.fresh (Nat.le_refl _))⟩
  · obtain ⟨its, r', pl, hz⟩ := I.tuple hq
    exact call_tuple_same pl ⟨.ref p, H, I, rfl, q⟩

/-! ### the call of a builtin's method: o.m(..) -/
/-- the value is of that builtin type -/
def tyV (K : PySem.W.Frag) (T : String) (x : V) (H : Hp) : Prop := match x with
  | .str _ => T = "str"
  | .int _ => T = "int"
  | .ref p => (T = "list" ∧ ∃ xs, SqL K H p xs) ∨ (T = "tuple" ∧ ∃ o, K.lookup p = some o ∧ o.cls = .type "tuple" ∧ o.dict = none) ∨
      (T = "dict" ∧ ((∃ kvs, H p = some (.dK kvs)) ∨ ∃ kvs, H p = some (.dT kvs))) ∨ (T = "set" ∧ ∃ S n, H p = some (.set S n))
  | _ => False
theorem tyV_is {pins : List (Addr × Obj)} {σ : St} {H : Hp} {s : Shared} {T : String} {x : V} {v : Value} (I : Inv X pins σ H s) (r : RelV x v) (ty : tyV X.K T x H) :
    s.TypeIs v T ∧ ∀ a, v = .ref a → ∃ ob, s.heap.get? a = some ob ∧ ob.dict = none := by
  cases x with
  | str z =>
    obtain ⟨t, rfl⟩ := r
    cases (show T = "str" from ty)
    exact ⟨typeIs_str s z t, fun _ e => nomatch e⟩
  | int i =>
    obtain ⟨t, rfl⟩ := r
    cases (show T = "int" from ty)
    exact ⟨typeIs_int s i t, fun _ e => nomatch e⟩
  | ref p =>
    cases r
    rcases ty with ⟨rfl, xs, hq⟩ | ⟨rfl, o, hk, hc, hd⟩ | ⟨rfl, hk⟩ | ⟨rfl, S, n, hk⟩
    · obtain ⟨its, _, pl, _⟩ := I.list hq
      refine ⟨pl.isList.typeIs, fun a e => ?_⟩
      cases e
      obtain ⟨o, n, e, c, hd, _⟩ := pl
      exact ⟨o, e, hd⟩
    · refine ⟨⟨o, I.kIn p o hk, hc⟩, fun a e => ?_⟩
      cases e
      exact ⟨o, I.kIn _ o hk, hd⟩
    · have z : ∃ o, s.heap.get? p = some o ∧ o.ExactDict := by
        rcases hk with ⟨kvs, hk⟩ | ⟨kvs, hk⟩
        · obtain ⟨_, _, _, _, o, _, _, e, ex, _⟩ := I.hok p _ hk
          exact ⟨o, e, ex⟩
        · obtain ⟨_, _, _, _, o, _, _, e, ex, _⟩ := I.hok p _ hk
          exact ⟨o, e, ex⟩
      obtain ⟨o, e, ex⟩ := z
      refine ⟨⟨o, e, ex.1⟩, fun a e2 => ?_⟩
      cases e2
      exact ⟨o, e, ex.2.1⟩
    · obtain ⟨o, _, _, _, e, ex, _⟩ := I.hok p _ hk
      refine ⟨⟨o, e, ex.1⟩, fun a e2 => ?_⟩
      cases e2
      exact ⟨o, e, ex.2.1⟩
  | _ => exact False.elim ty
def tBM0 (K : PySem.W.Frag) (T : String) (r : V → List V → Hp → VK → Prop) (to : TE) : TE := fun σ H Q => to σ H fun x H1 => tyV K T x H1 ∧ r x [] H1 Q
def tBM (K : PySem.W.Frag) (T : String) (r : V → List V → Hp → VK → Prop) (to : TE) (t : TA) : TE := fun σ H Q => to σ H fun x H1 => tyV K T x H1 ∧ t σ H1 fun xs H2 => r x xs H2 Q
variable {o e : Expr} {es : List Expr} {to : TE} {t : TA} {name : Str} {apos cpos : Pos} {T id : String} {r : V → List V → Hp → VK → Prop}
theorem pe_bm0 (pa : PlainAttrs T) (slot : Slot T name id) (hty : typeOf (.builtin id) = pure (.type "method_descriptor")) (hm : MtR X id r) (ho : PE X o to)
    (hbase : attributeBase o name X.env (eval o X.env) = eval o X.env := by rfl) (hline : (apos.endLine == cpos.line) = true := by rfl) : PE X (.Call (.Attribute o name apos) [] [] cpos) (tBM0 X.K T r to) := by
  intro pins s σ H Q I h
  refine wpAny_Call_method0_late hbase hline (thn (ho pins s σ H _ I h) fun v s1 ⟨x, H1, I1, r1, ty, q1⟩ => ?_)
  obtain ⟨h1, h2⟩ := tyV_is I1 r1 ty
  exact ⟨T, id, pa, slot, hty, h1, h2, Calls.callWith_builtin rfl (PySem.evalArgs_none (hm pins s1 σ H1 x [] v [] Q I1 r1 .nil q1))⟩
theorem pe_bm (pa : PlainAttrs T) (slot : Slot T name id) (hty : typeOf (.builtin id) = pure (.type "method_descriptor")) (hm : MtR X id r) (ho : PE X o to) (ha : PA X (e :: es) t)
    (hbase : attributeBase o name X.env (eval o X.env) = eval o X.env := by rfl)
    (hfew : ((backTo cpos (starEach (e :: es) X.env)).all (fun x => !x.1) && (backToKw cpos (keywordEach [] X.env)).all (fun x => x.1.isSome)
      && decide ((e :: es).length + ([] : List Keyword).length + (if ([] : List Keyword).isEmpty then 0 else 1) < 30)) = true := by rfl)
    (hline : (apos.endLine == cpos.line) = true := by rfl) (hs : starEach (e :: es) X.env = (false, eval e X.env) :: starEach es X.env := by rfl) (hplain : (backTo cpos (starEach es X.env)).any (·.1) = false := by rfl) :
    PE X (.Call (.Attribute o name apos) (e :: es) [] cpos) (tBM X.K T r to t) := by
  intro pins s σ H Q I h
  refine wpAny_Call_method_late hbase hfew hline rfl (thn (ho pins s σ H _ I h) fun v s1 ⟨x, H1, I1, r1, ty, q1⟩ => ?_)
  obtain ⟨h1, h2⟩ := tyV_is I1 r1 ty
  refine ⟨T, id, pa, slot, hty, h1, h2, ?_⟩
  have hA := ha cpos pins s1 σ H1 _ I1 q1
  rw [hs] at hA ⊢
  refine Calls.callWith_builtin (by show (false || (backTo cpos (starEach es X.env)).any (·.1)) = false; rw [hplain] <;> rfl) (Calls.evalArgs_plain ?_)
  exact thn hA fun us s2 ⟨vs, H2, I2, r2, q2⟩ => hm pins s2 σ H2 x vs v us Q I2 r1 r2 q2
/- xs.append(e), list.index on a module's tuple .. are MtR facts of 06m -/
end
end L2

namespace L2
open PySem PySem.Spec PyProof.Rows

def MtM (X : Cx) (id : String) (r : V → List V → Hp → VK → Prop) : Prop :=
  ∀ (pins : List (Addr × Obj)) (s : Shared) (σ : St) (H : Hp) (x : V) (xs : List V) (v : Value) (us : List Value) (Q : VK), Inv X pins σ H s → RelV x v → Vals xs us → r x xs H Q →
    wpAny (model X.prog X.w) X.A (call (.builtin id) (v :: us)) (EP X pins σ Q) X.xe s

/-! ### lists of values -/
theorem Vals.one : ∀ {x : V} {us : List Value}, Vals [x] us → ∃ u, us = [u] ∧ RelV x u
  | _, _, .cons r .nil => ⟨_, rfl, r⟩
theorem Vals.zero : ∀ {us : List Value}, Vals [] us → us = []
  | _, .nil => rfl

section
variable {X : Cx} {pins : List (Addr × Obj)} {σ : St} {H : Hp} {s : Shared} {l b : Addr} {xs ys zs : List V}

/-! ### the two steps: a tracked list is rewritten, a new list is laid -/
theorem Inv.lset {its its' : List Value} {n : Nat} {f : Array Value → Array Value} {t' : Nat} (I : Inv X pins σ H s) (hH : H l = some (.lst xs))
    (e : s.heap.get? l = some { cls := .type "list", data := .seq its.toArray n }) (hf : f its.toArray = its'.toArray) (hv : Vals ys its') (hz : ys.length ≤ sizeLine) :
    Inv X pins σ (upd H l (.lst ys)) { s with heap := s.heap.update l (Obj.mapSeq f), toks := t' } := by
  have q := PySem.IsL.update e f
  rw [hf] at q
  refine I.write (x := l) (e := l) (by rw [hH]; exact trivial) (.inl rfl) (fun b' u hb hu => (Heap.get?_update_other s.heap (Obj.mapSeq f) (Ne.symm hb)).trans hu) ⟨_, q⟩ ?_
  exact ⟨hz, its', _, hv, q⟩
theorem Inv.lnew {its : List Value} {t' : Nat} (I : Inv X pins σ H s) (hv : Vals ys its) (hz : ys.length ≤ sizeLine) :
    Inv X pins σ (upd H s.heap.objs.size (.lst ys)) { s with heap := s.heap.push { cls := .type "list", data := .seq its.toArray }, toks := t' } :=
  I.laid (fun _ _ q => Heap.get?_push_of_some _ q) (Nat.le_refl _) ⟨hz, its, 0, hv, Heap.get?_push_size _ rfl⟩
theorem Inv.fresh (I : Inv X pins σ H s) : H s.heap.objs.size = none := I.hok.fresh (Nat.le_refl _)
theorem Inv.lstM (I : Inv X pins σ H s) (hH : H l = some (.lst xs)) : xs.length ≤ sizeLine ∧ ∃ (its : List Value) (n : Nat), Vals xs its ∧ xs.length = its.length ∧ s.heap.get? l = some { cls := .type "list", data := .seq its.toArray n } := by
  obtain ⟨z, its, n, r, e⟩ := I.hok l _ hH
  exact ⟨z, its, n, r, r.length, e⟩

end

section
variable {X : Cx}

/-! ### methods -/
def rAppend : V → List V → Hp → VK → Prop := fun x vs H Q => ∃ l xs y, x = .ref l ∧ vs = [y] ∧ H l = some (.lst xs) ∧ xs.length < sizeLine ∧ Q .non (upd H l (.lst (xs ++ [y])))
theorem mt_append : MtM X "list.append" rAppend := by
  intro pins s σ H x vs v us Q I rx rv h
  obtain ⟨l, xs, y, rfl, rfl, hH, hz, q⟩ := h
  cases rx
  obtain ⟨u, rfl, ru⟩ := rv.one
  obtain ⟨z, its, n, r, hl, e⟩ := I.lstM hH
  refine call_meets F.slot_list_append ⟨_, e, rfl⟩ F.entry_list_append (F.args_list_append_2 _ _) (PySem.list_append l its.toArray n u (by rw [List.size_toArray]; omega)) ⟨e, ?_⟩
  refine ⟨.non, _, I.lset (its' := its ++ [u]) hH e (by simp) (r.append (.cons ru .nil)) ?_, rfl, q⟩
  rw [List.length_append, List.length_singleton]
  omega





def rClear : V → List V → Hp → VK → Prop := fun x vs H Q => ∃ l xs, x = .ref l ∧ vs = [] ∧ H l = some (.lst xs) ∧ Q .non (upd H l (.lst []))
theorem mt_clear : MtM X "list.clear" rClear := by
  intro pins s σ H x vs v us Q I rx rv h
  obtain ⟨l, xs, rfl, rfl, hH, q⟩ := h
  cases rx
  have hus := rv.zero
  subst hus
  obtain ⟨z, its, n, r, hl, e⟩ := I.lstM hH
  refine call_meets F.slot_list_clear ⟨_, e, rfl⟩ F.entry_list_clear (F.args_list_clear_1 _) (AutoSeq1.list_clear_list_0 l its.toArray n (by rw [List.size_toArray]; omega)) ⟨e, ?_⟩
  exact ⟨.non, _, I.lset (its' := []) (ys := []) hH e rfl .nil (Nat.zero_le _), rfl, q⟩

/-! ### list + list, list += list, list * int -/
def rCat : R2 := fun x y H Q => ∃ l b xs zs, x = .ref l ∧ y = .ref b ∧ H l = some (.lst xs) ∧ H b = some (.lst zs) ∧ xs.length + zs.length ≤ sizeLine ∧ ∀ p, H p = none → Q (.ref p) (upd H p (.lst (xs ++ zs)))
theorem op_cat : OpR X (binaryOp .Add) rCat := by
  intro pins s σ H x y v u Q I rx ry h
  obtain ⟨l, b, xs, zs, rfl, rfl, hH, hB, hz, q⟩ := h
  cases rx
  cases ry
  obtain ⟨z, its, n, r, hl, e⟩ := I.lstM hH
  obtain ⟨z2, its2, n2, r2, hl2, e2⟩ := I.lstM hB
  refine PySem.P.add_list e e2 ?_ (by rw [List.size_toArray, List.size_toArray]; omega)
  have ea : its.toArray ++ its2.toArray = (its ++ its2).toArray := by simp
  rw [ea]
  exact ⟨.ref _, _, I.lnew (t' := s.toks) (r.append r2) (by rw [List.length_append]; omega), rfl, q _ I.fresh⟩

/-! ### del xs[i] -/
end

/-! ### xs[a:b] = ys -/
section
variable {prog : Program} {w : World} {A : Around} {E : Value → Shared → Prop} {s : Shared}
set_option maxRecDepth 100000 in
end

end L2

namespace Att
open PySem PySem.W PySem.Calls PyProof.Rows

/-! ### the script -/
theorem ints_of_wellAll {P : Params} {h : Heap} : ∀ (ns : List Int) (vs : List Value), WellAll P h vs (ns.map WData.int) → IntsAre vs ns := by
  intro ns
  induction ns with
  | nil =>
    intro vs w
    rw [List.map_nil] at w
    cases w
    exact .nil
  | cons n ns ih =>
    intro vs w
    rw [List.map_cons] at w
    cases w with
    | cons a b =>
      cases a
      exact .cons _ _ (ih _ b)

theorem script_of {l : OpenLaw} {n : Nat} (hn : l.most = some n) {P : Params} {h : Heap} {args : List WData} {vals : List Value}
    (hpre : l.row.toRowW.claim.pre args = true) (hwl : WellAll P h vals args) :
    ∃ a vs ns, vals = [Value.ref a] ∧ args = [WData.list (ns.map WData.int)] ∧ h.get? a = some { cls := .type "list", data := .seq vs.toArray } ∧ IntsAre vs ns ∧ ns.length ≤ n := by
  have hsh : WShape.hasAll [] args [.list .int] = true := (pre_splitW hpre).1
  have hc : l.pre.holds [] { args := args } = true := (pre_splitW hpre).2
  obtain ⟨d, r, rfl, h1, h2⟩ := hasAllW_cons hsh
  obtain rfl := hasAllW_nil h2
  obtain ⟨xs, rfl, h3⟩ := hasW_list h1
  obtain ⟨ns, rfl⟩ := items_int h3
  have hlen : ns.length ≤ n := by
    unfold OpenLaw.pre at hc
    have h4 : (WTm.not (.lt (.lit (.int (n : Int))) (.len (.arg 0)))).holds [] { args := [.list (ns.map .int)] } = true := by
      have h4 := (holds_andW hc).1
      rw [hn] at h4
      exact h4
    have h5 := condW_of h4 (w_not (w_lt w_lit (w_len_list (w_arg rfl))))
    rw [List.length_map] at h5
    refine Nat.le_of_not_lt fun q => ?_
    have q' : (n : Int) < ((ns.length : Nat) : Int) := by omega
    first
      | (rw [decide_eq_true q'] at h5; exact absurd h5 (by decide))
      | (simp at h5; omega)
  cases hwl with
  | cons w1 w2 =>
    cases w2
    cases w1 with
    | list ho hall => exact ⟨_, _, ns, rfl, rfl, ho, ints_of_wellAll ns _ hall, hlen⟩

theorem post_true (l : OpenLaw) (args : List WData) : l.row.toRowW.claim.post args (.bool true) args = true :=
  postW_of (r := l.row.toRowW) (X := (true == true))
    (show WShape.has [] (.bool true) .bool = true by first | rfl | decide | simp [WShape.has, WShape.arms, WShape.armsAll])
    (show (WTm.eq .res (.lit (.bool true))).value [] { args := args, res := some (.bool true), after := args } = some (.bool (true == true)) from w_eq_bool (w_res rfl) w_lit) rfl

/-! ### the attachment: holds_open's last premise (the goal 'hc' behind k_head) from a wpAny of the law's body -/

/-- the same from a codeAny of the CALL (for a layer whose function contracts speak of calls) -/
theorem attach_call {l : OpenLaw} {n : Nat} {q : Program} {loose : List Str} {XP : (Str → Option Value) → Heap → Prop} {YP : World → Heap → Prop} {d : DefRec}
    (hn : l.most = some n) (hdf : d.params.defaults = [])
    (call : ∀ (w : World) (s₀ s₁ : Shared) (mg mb : Str → Option Value) (fa : Addr) (o : Obj) (pm cd doc : Value) (a : Addr) (vs : List Value) (ns : List Int),
      Ground q loose [] XP w s₀ mg mb s₁.heap → YP w s₁.heap →
      s₁.heap.get? fa = some o → o.data = .func (docDef d.name d.params d.body d.scope pm cd doc) → s₁.heap.CodeRec cd d.name → mg d.name = some (.ref fa) →
      s₁.heap.get? a = some { cls := .type "list", data := .seq vs.toArray } → IntsAre vs ns → ns.length ≤ n → s₁.gens = #[] →
      codeAny (model l.prog w) callerA (.call (.ref fa) ⟨[.ref a], []⟩) (fun r s' => r = .ok (.ret (.bool true)) ∧ OldK s₁.heap s'.heap ∧ s'.os = s₁.os ∧ AllBare s'.gens) s₁) :
    WalkO q loose XP YP l.row.toRowW d [] (fun f vs => PySem.call f vs) := by
  intro w s₀ s₁ mg mb G Y fa o pm cd doc dV kV ho hd hcd hD hmg hg args vals as hpre hlay hrd hwl hlo
  obtain rfl : dV = .none := Dflts.none hD hdf
  obtain rfl : kV = .none := Dflts.noKw hD
  obtain ⟨a, vs, ns, rfl, rfl, hobj, hints, hlen⟩ := script_of hn hpre hwl
  refine enter_call (codeAny_mono (call w s₀ s₁ mg mb fa o pm cd doc a vs ns G Y ho (fd_plain hd) hcd hmg hobj hints hlen hg) fun r s' hq => ?_)
  obtain ⟨rfl, h2, h3, h4⟩ := hq
  exact ⟨.inl ⟨.bool true, .bool true, [], rfl, fun _ => rfl, .bool true, post_true l _, fun _ => ⟨List.Pairwise.nil, fun _ hm => (nomatch hm)⟩⟩, h2, h3, h4⟩


/-! ### rules over ANY heap (no ledger) from facts about the written part K: the library's own take a ledger (News) for what they write -/
section
variable {prog : Program} {w : World} {A : Around} {E : Value → Shared → Prop} {s : Shared} {K : Frag}





/-! the whole heap as the ledger: makes every rule that writes through a ledger a rule over any heap -/

end
end Att

namespace L2
open PySem PySem.Spec PyProof.Rows

theorem vals_ints : ∀ {vs : List Value} {ns : List Int}, IntsAre vs ns → Vals (ns.map V.int) vs
  | _, _, .nil => .nil
  | _, _, .cons n t h => .cons ⟨t, rfl⟩ (vals_ints h)

/-- nothing is tracked but the script, known to the object (or it is an object of the module) -/
def Only (H : Hp) : Prop := ∀ b, H b = none ∨ ∃ o xs, H b = some (.frz o (.lst xs))

/-- THE HEAD: the law's promise, at the heap behind the top. F, the promise of the law's def, may use that base is part of the heap (so K.In base, base.Ns mainGlobals mg stand in Mod) -/
theorem law_call {P : Program} {w : World} {K : PySem.W.Frag} {mg mb : Str → Option Value} {CX : CXT} {k : Nat} {fa a : Addr} {fd : FuncData} {x : Str} {sp : Sp} {s₁ : Shared} {vs : List Value} {ns : List Int}
    (KX : K.In s₁.heap) (hns : s₁.heap.Ns mainGlobals mg) (hb : s₁.heap.Ns builtinsNs mb) (hbb : ∀ x : Str, x ≠ "__name__" → mb x = bootBuiltins x) (hlim : s₁.heap.NoLimit) (hg : s₁.gens = #[])
    (ha : s₁.heap.get? a = some { cls := .type "list", data := .seq vs.toArray }) (hi : IntsAre vs ns) (hl : ns.length ≤ sizeLine) (hr : Room k callerA)
    (F : ∀ base : Heap, K.In base → base.Ns mainGlobals mg → FnOk P w K mg base CX k fa fd [x] sp) (hbind : ∀ (s : Shared) (u : Value), BindsTo s fd ⟨[u], []⟩ [(x, u)])
    (hsp : ∀ H : Hp, Only H → SqL K H a (ns.map V.int) → sp [.ref a] H (fun v _ => v = .bl true) fun _ _ _ => False)
    (hCX : ∀ H e s', CX [] H s₁ (fun _ _ _ => False) e s' → False) :
    codeAny (model P w) callerA (.call (.ref fa) ⟨[.ref a], []⟩) (fun r s' => r = .ok (.ret (.bool true)) ∧ OldK s₁.heap s'.heap ∧ s'.os = s₁.os ∧ AllBare s'.gens) s₁ := by
  have rv := vals_ints hi
  have lenV := hi.length
  -- from an abstract heap in which nothing but the script may be tracked
  have core : ∀ H : Hp, Only H → SqL K H a (ns.map V.int) → HOk P w H s₁.heap → (∀ b, H b ≠ none → b = a) → (H a ≠ none → K.lookup a = none) →
      codeAny (model P w) callerA (.call (.ref fa) ⟨[.ref a], []⟩) (fun r s' => r = .ok (.ret (.bool true)) ∧ OldK s₁.heap s'.heap ∧ s'.os = s₁.os ∧ AllBare s'.gens) s₁ := by
    intro H hO hS hok hA hK
    have base_of : ∀ {b : Addr} {o : Obj}, s₁.heap.get? b = some o → H b = none → (hidT s₁.heap H).get? b = some o := fun e n => hidT_get e n
    have noA : ∀ {b : Addr} {o : Obj} {es : Array DictEntry} {ep : Nat}, s₁.heap.get? b = some o → o.data = .dict es ep → H b = none := fun {b o es ep} e d => by
      cases q : H b with
      | none => rfl
      | some u =>
        have e' : b = a := hA b (by rw [q]; simp)
        subst e'
        rw [ha] at e; cases e
        have d' : Data.seq vs.toArray _ = Data.dict es ep := d
        cases d'
    have nsK : ∀ {b : Addr} {m : Str → Option Value}, s₁.heap.Ns b m → (hidT s₁.heap H).Ns b m := fun {b m} ⟨o, es, ep, e, d, r⟩ => ⟨o, es, ep, base_of e (noA e d), d, r⟩
    have hKb : K.In (hidT s₁.heap H) := fun b o e => base_of (KX b o e) (by
      cases q : H b with
      | none => rfl
      | some u =>
        have e' : b = a := hA b (by rw [q]; simp)
        subst e'
        rw [hK (by rw [q]; simp)] at e; cases e)
    have hM : Mod K mg (hidT s₁.heap H) := ⟨hKb, nsK hns, ⟨mb, nsK hb, hbb⟩, let ⟨mc, h1, h2⟩ := hlim; ⟨mc, nsK h1, h2⟩⟩
    have e0 : Env0 P w K mg (hidT s₁.heap H) callerA [] s₁ H := ⟨rfl, hM, fun b o e => of_hidT e, Nat.le_of_eq (hidT_size _ _), trivial, fun b hb => absurd (show b ∈ ([] : List Addr) from hb) (by simp), hok, .of_eq hg⟩
    refine codeAny_mono ((F _ hKb (nsK hns)).run callerA [] s₁ H ⟨[.ref a], []⟩ [.ref a] [.ref a] _ _ hr e0 (hbind s₁ (.ref a)) (.cons rfl .nil) (hsp H hO hS)) fun r s' h => ?_
    cases r with
    | error e => exact (hCX H e s' h).elim
    | ok fl =>
      cases fl with
      | next => exact False.elim h
      | brk => exact False.elim h
      | cont => exact False.elim h
      | ret u =>
        obtain ⟨v, H', os, bare, un, hok', r', q⟩ := h
        have q' : v = .bl true := q
        subst q'
        obtain rfl : u = Value.bool true := r'
        refine ⟨rfl, OldK.of_keep fun b o e => ?_, os, bare⟩
        cases q : H b with
        | none => exact un.keep b o e q (by intro z; exact absurd (show b ∈ ([] : List Addr) from z) (by simp)) (by simp)
        | some u =>
          rcases hO b with z | ⟨ob, xs, z⟩
          · rw [q] at z; cases z
          · have z2 := un.frzs b ob _ z
            obtain ⟨e1, _⟩ := hok b _ z
            obtain ⟨e2, _⟩ := hok' b _ z2
            rw [e] at e1; cases e1
            exact e2
  cases hk : K.lookup a with
  | some o =>
    -- the script is one of the module's own objects
    have e := KX a o hk
    rw [ha] at e
    cases e
    refine core (fun _ => none) (fun _ => .inl rfl) (.inr ⟨_, vs.toArray, _, hk, rfl, rfl, rfl, by rw [List.size_toArray, lenV]; exact hl, by simpa using rv⟩) (fun b u z => by have z' : (none : Option HO) = some u := z; cases z') (fun b z => absurd rfl z) fun z => absurd rfl z
  | none =>
    refine core (fun b => if b = a then some (.frz { cls := .type "list", data := .seq vs.toArray } (.lst (ns.map V.int))) else none) (fun b => ?_) (.inl (.inr ⟨{ cls := .type "list", data := .seq vs.toArray }, if_pos rfl⟩)) (fun b u z => ?_) (fun b z => ?_) fun _ => hk
    · by_cases hb : b = a
      · exact .inr ⟨_, _, if_pos hb⟩
      · exact .inl (if_neg hb)
    · by_cases hb : b = a
      · have z' := (if_pos hb).symm.trans z
        cases z'
        subst hb
        exact ⟨ha, by rw [List.length_map]; exact hl, vs, _, rv, ha⟩
      · have z' := (if_neg hb).symm.trans z
        cases z'
    · by_cases hb : b = a
      · exact hb
      · exact absurd (if_neg hb) z
end L2

namespace L2
open PySem PySem.Spec PyProof.Rows


/-- the goal that k_head leaves (case hc), from the law's promise. F gives the function object fd (K's own) once, then the promise over every base -/
theorem walk_of {l : PySem.W.OpenLaw} {n k : Nat} {q : Program} {loose : List Str} {XP : (Str → Option Value) → Heap → Prop} {YP : World → Heap → Prop} {d : DefRec} {K : Params → PySem.W.Frag} {CX : World → CXT} {sp : World → Sp} {x : Str}
    (hn : l.most = some n) (hn2 : n ≤ sizeLine) (hdf : d.params.defaults = []) (hr : Room k callerA)
    (hY : ∀ (w : World) (h : Heap), YP w h → (K w.params).In h)
    (F : ∀ (w : World) (mg : Str → Option Value) (fa : Addr) (h : Heap), (K w.params).In h → h.Ns mainGlobals mg → mg d.name = some (.ref fa) →
      ∃ fd : FuncData, (∀ (s : Shared) (u : Value), BindsTo s fd ⟨[u], []⟩ [(x, u)]) ∧
        ∀ base : Heap, (K w.params).In base → base.Ns mainGlobals mg → FnOk l.prog w (K w.params) mg base (CX w) k fa fd [x] (sp w))
    (hsp : ∀ (w : World) (H : Hp) (a : Addr) (ns : List Int), ns.length ≤ n → Only H → SqL (K w.params) H a (ns.map V.int) → sp w [.ref a] H (fun v _ => v = .bl true) fun _ _ _ => False)
    (hCX : ∀ (w : World) (H : Hp) (s : Shared) (e : Value) (s' : Shared), CX w [] H s (fun _ _ _ => False) e s' → False) :
    PySem.W.WalkO q loose XP YP l.row.toRowW d [] (fun f vs => PySem.call f vs) := by
  refine Att.attach_call hn hdf fun w s₀ s₁ mg mb fa o pm cd doc a vs ns G Y ho hd hcd hmg hobj hints hlen hg => ?_
  have KX := hY w _ Y
  obtain ⟨fd, hb, hF⟩ := F w mg fa _ KX G.T.g hmg
  exact law_call KX G.T.g G.T.b G.T.builtins G.T.nolimit hg hobj hints (Nat.le_trans hlen hn2) hr hF hb (fun H hO hS => hsp w H a ns hlen hO hS) fun H e s' => hCX w H s₁ e s'
end L2



/-! SHORT WORDS over the layer: a def of the text, its body, what a loop and a test want. -/
namespace L2
open PySem PySem.Spec PyProof.Rows

/-! ### the text by places -/
/-- the j-th statement of a class's body -/
def inClass (s : Stmt) (j : Nat) : Stmt := match s with
  | .ClassDef _ _ _ body _ _ _ _ _ _ _ => body.getD j (.Pass ⟨0, 0, 0, 0⟩)
  | _ => .Pass ⟨0, 0, 0, 0⟩
def defArgs (s : Stmt) : Arguments := match s with
  | .FunctionDef _ a _ _ _ _ _ _ _ _ => a
  | _ => { posonlyargs := [], args := [], vararg := none, kwonlyargs := [], kw_defaults := [], kwarg := none, defaults := [] }
def defBody (s : Stmt) : List Stmt := match s with
  | .FunctionDef _ _ b _ _ _ _ _ _ _ => b
  | _ => []
def defScope (s : Stmt) : Scope := match s with
  | .FunctionDef _ _ _ _ _ _ sc _ _ _ => sc
  | _ => { kind := .function, names := [], isGenerator := false, isCoroutine := false }

/-! ### no exception leaves a def -/
abbrev CX0 : CXT := fun _ _ _ _ _ _ => False
abbrev E0 : XK := fun _ _ _ => False
theorem pass0 {X : Cx} : Passes CX0 X E0 := fun _ _ _ _ _ _ _ h => h.elim

/-! ### a def (or method) of the text as it stands behind the top -/
structure Fun (K : PySem.W.Frag) (x qual : Str) (st : Stmt) (f : Addr) (fd : FuncData) : Prop where
  ex : ∃ (oc : Value) (od : Option Addr) (kV doc pm : Value) (an : Option Addr) (cdv ct : Value) (osl : Array (Option Value)),
    fd = PySem.W.fnOf x qual (defArgs st) (defBody st) (defScope st) .none kV doc pm an cdv ct ∧ K.lookup f = some ⟨oc, od, .func fd, osl⟩ ∧ PySem.W.codeIn K cdv qual = true
  kp : PySem.W.keepIn K (.ref f) = true
section
variable {P : Program} {w : World} {K : PySem.W.Frag} {mg : Str → Option Value} {base : Heap}
/-- THE RULE for a def: its body as a term of rules, and the reading of that term -/
theorem Fun.ok {x qual : Str} {st : Stmt} {f : Addr} {fd : FuncData} {N ps : List Str} {k : Nat} {sp : Sp} (F : Fun K x qual st f fd) (S : FnScope N ps (defScope st)) (len : ∀ vs H Q E, sp vs H Q E → vs.length = ps.length)
    (hbody : ∀ (cdv : Value) (A : Around) (outer : List Env) (s : Shared) (H : Hp) (vs : List V) (Q : VK) (E : XK), Room k (A.deeper (envOfC qual (defScope st) s.heap.objs.size f cdv)) → sp vs H Q E →
      ∃ t, PSs (cxOf CX0 P w K mg base N qual (defScope st) f cdv A outer s H E).nox (defBody st) t ∧ t { nx := fun _ H' => Q .non H', rt := Q } (start N vs) H) : FnOk P w K mg base CX0 (k + 1) f fd ps sp := by
  obtain ⟨oc, od, kV, doc, pm, an, cdv, ct, osl, rfl, lk, hcd⟩ := F.ex
  refine fn_of lk hcd S len fun A outer s H vs Q E hr hsp => ?_
  obtain ⟨t, h, q⟩ := hbody cdv A outer s H vs Q E hr hsp
  exact ⟨t, h.nox, q⟩
/-- how its arguments bind (no defaults): h is «fun _ _ _ _ _ _ us hl => match us, hl with | [_, _], _ => rfl», one _ a parameter -/
theorem Fun.binds {x qual : Str} {st : Stmt} {f : Addr} {fd : FuncData} {ps : List Str} (F : Fun K x qual st f fd)
    (h : ∀ (kV doc pm : Value) (an : Option Addr) (cdv ct : Value) (us : List Value), us.length = ps.length → bindArgs (PySem.W.fnOf x qual (defArgs st) (defBody st) (defScope st) .none kV doc pm an cdv ct) ⟨us, []⟩ = pure (ps.zip us)) : Binds K fd ps [] := by
  obtain ⟨oc, od, kV, doc, pm, an, cdv, ct, osl, rfl, lk, hcd⟩ := F.ex
  exact .all (h kV doc pm an cdv ct)
theorem fun_mk {x qual : Str} {st : Stmt} {f : Addr} {oc : Value} {od an : Option Addr} {osl : Array (Option Value)} {kV doc pm cdv ct : Value} (l : K.lookup f = some ⟨oc, od, .func (PySem.W.fnOf x qual (defArgs st) (defBody st) (defScope st) .none kV doc pm an cdv ct), osl⟩)
    (c : PySem.W.codeIn K cdv qual = true) (k : PySem.W.keepIn K (.ref f) = true) : Fun K x qual st f (PySem.W.fnOf x qual (defArgs st) (defBody st) (defScope st) .none kV doc pm an cdv ct) := ⟨⟨oc, od, kV, doc, pm, an, cdv, ct, osl, rfl, l, c⟩, k⟩
end
theorem small1000 {n : Nat} (h : n ≤ 1000) : n < sizeLine := Nat.lt_of_le_of_lt h (by decide)

/-! ### expressions in short: the name that stands in the i-th slot -/
section
variable {X : Cx}
theorem pv (i : Nat) {x : Str} {pos : Pos} (hN : X.N[i]? = some x := by rfl) (hv : Vis X.env.scope x := by first | exact Or.inl rfl | exact Or.inr (Or.inl rfl) | exact Or.inr (Or.inr rfl)) (hd : (x == ("__debug__" : Str)) = false := by decide)
    (hcd : (x == ("__classdict__" : Str)) = false := by decide) : PE X (.Name x pos) (tVar i) := pe_var hN hv hd hcd
end

/-! ### tests -/

/-! ### heaps -/
/-- all that was tracked is as it was -/
def Same (H H' : Hp) : Prop := ∀ b o, H b = some o → H' b = some o
theorem Same.trans {H H1 H2 : Hp} (a : Same H H1) (b : Same H1 H2) : Same H H2 := fun c o h => b c o (a c o h)
theorem Same.free {H H' : Hp} (e : Same H H') {l : Addr} (h : H' l = Option.none) : H l = Option.none := by
  cases q : H l with
  | none => rfl
  | some o =>
    rw [e l o q] at h
    cases h

end L2

set_option linter.all false
set_option maxRecDepth 100000
set_option maxHeartbeats 4000000
namespace L2
open PySem PySem.Spec PyProof.Rows
/-! wider rules of one's own over the layer -/
/-- so many bits at the most -/
def Bd (n : Nat) (i : Int) : Prop := i.natAbs < 2 ^ n
theorem Bd.mono {m n : Nat} {i : Int} (h : Bd m i) (e : m ≤ n) : Bd n i := Nat.lt_of_lt_of_le h (Nat.pow_le_pow_right (by decide) e)
theorem Bd.log {m : Nat} {i : Int} (h : Bd m i) (hm : 0 < m) : i.natAbs.log2 < m := by
  unfold Bd at h
  by_cases e : i.natAbs = 0
  · rw [e]; simpa using hm
  · exact (Nat.log2_lt e).mpr h
theorem Bd.le {m : Nat} {i j : Int} (h : Bd m j) (e : i.natAbs ≤ j.natAbs) : Bd m i := Nat.lt_of_le_of_lt e h
/-- a division that goes by no other module -/
def CDivB (_ j : Int) : Prop := j ≠ 0 ∧ Bd 9000 j
section
variable {X : Cx}
theorem op_mulB : OpR X (binaryOp .Mult) (rI IntMulOk fun i j => .int (i * j)) := opI fun _ _ _ _ _ _ _ hc q => mul_int q hc
theorem op_fdivB : OpR X (binaryOp .FloorDiv) (rI CDivB fun i j => .int (i.fdiv j)) := opI fun _ _ _ _ _ _ _ hc q => floordiv_int hc.1 q (.inl (PyProof.noPylong_of_log2 (hc.2.log (by decide))))
/-- isinstance(x, T), T a type of the language -/
theorem call_isinst : CallR X (.builtin "isinstance") (fun xs H Q => ∃ x n t b, xs = [x, .ty n] ∧ TyOf X.K H x t ∧ PySem.W.kitOne X.K t (.type n) = some b ∧ Q (.bl b) H) := by
  intro pins s σ H xs us Q I r h
  obtain ⟨x, n, t, b, rfl, ty, e, q⟩ := h
  obtain ⟨u, v, rfl, ru, rv⟩ := vals2 r
  cases (show v = Value.type n from rv)
  exact isinst_ok I ru ty e fun tk => ⟨.bl b, H, I.tok _, rfl, q⟩
theorem kit_same {K : PySem.W.Frag} {n : String} : PySem.W.kitOne K (.type n) (.type n) = some true := by
  unfold PySem.W.kitOne; rw [if_pos (beq_self_eq_true _)]
/-- all(xs), any(xs) of bools -/
theorem boolsAre_of : ∀ {bs : List Bool} {us : List Value}, Vals (bs.map V.bl) us → PyProof.Rows.LSm.BoolsAre us bs := by
  intro bs
  induction bs with
  | nil => intro us h; cases h; exact .nil
  | cons b bs ih =>
    intro us h
    cases h with
    | cons r t =>
      cases (show _ = Value.bool b from r)
      exact .cons _ (ih t)
theorem call_all (hc : X.calm = true) : CallR X (.builtin "all") (fun xs H Q => ∃ (p : Addr) (bs : List Bool), xs = [.ref p] ∧ SqL X.K H p (bs.map V.bl) ∧ Q (.bl (bs.all id)) H) := by
  intro pins s σ H xs us Q I r h
  obtain ⟨p, bs, rfl, hq, q⟩ := h
  obtain ⟨u, rfl, ru⟩ := vals1 r
  cases ru
  obtain ⟨vs, rv, pl, hz⟩ := I.list hq
  have hl := pl.isList
  have hb := boolsAre_of rv
  have hh : X.A.handled = none := I.ok.hd hc
  have hlt : p < s.heap.objs.size := by obtain ⟨_, e, _⟩ := hl; exact Heap.lt_size e
  have W := Walks.list (A := X.A.in1) (prog := X.prog) (w := X.w) hh s.heap.objs.size p (Nat.ne_of_lt hlt) vs.toArray
  have tr : ∀ (i : Nat) (v : Value) (s' : Shared) (Q' : Bool → Shared → Prop) (E' : Value → Shared → Prop), vs.toArray[i]? = some v → Q' ((bs[i]?).getD true) s' → wpAny (model X.prog X.w) X.A.in1 (truthy v) Q' E' s' := fun i v s' Q' E' e q' => by
    obtain ⟨b, e2, rfl⟩ := hb.get i v (by simpa using e)
    rw [e2] at q'
    exact wpAny_truthy_bool q'
  have tot : ((List.range vs.toArray.size).all fun i => (bs[i]?).getD true) = bs.all id := by
    rw [List.size_toArray, hb.length]
    exact PyProof.Rows.LSm.range_all bs
  exact call_all_walk (wpAny_pyIter_list hl ⟨_, _, _, _, _, _, fun i => (bs[i]?).getD true, rfl, W, ⟨⟨_, Heap.get?_push_size _ rfl, rfl, rfl⟩, hl.push _⟩, tr, fun h' tk hk => by
    rw [tot]
    exact ⟨.bl _, H, I.kept (PyProof.Rows.LSm.kept_iter hk), rfl, q⟩⟩)
end
/-! ### == of tuples and lists of data -/
def TupI (K : PySem.W.Frag) (H : Hp) (v : V) (ns : List Int) : Prop := ∃ a, v = .ref a ∧ SqT K H a (ns.map V.int)
section
open PySem.SeqAt PyProof.V
variable {X : Cx} {pins : List (Addr × Obj)} {σ : St} {H : Hp} {s : Shared}
theorem readsAll_ints {h : Heap} : ∀ {ns : List Int} {us : List Value}, Vals (ns.map V.int) us → ReadsAll h us (ns.map PyData.int) [] := by
  intro ns
  induction ns with
  | nil => intro us h; cases h; exact .nil
  | cons n ns ih =>
    intro us hv
    cases hv with
    | cons r t =>
      obtain ⟨k, rfl⟩ := (show ∃ t, _ = Value.int n t from r)
      have := ReadsAll.cons (Reads.int (h := h) n k) (ih t)
      simpa using this
theorem Inv.tupI {v : V} {u : Value} {ns : List Int} (I : Inv X pins σ H s) (r : RelV v u) (t : TupI X.K H v ns) : Reads s.heap u (.tuple (ns.map PyData.int)) [] := by
  obtain ⟨a, rfl, h⟩ := t
  cases r
  obtain ⟨its, rv, p, _⟩ := I.tuple h
  obtain ⟨o, ho, hc, n, hd⟩ := p
  exact Reads.tuple ho hc hd (by simpa using readsAll_ints rv)
theorem shaped_ti (ns : List Int) : shaped (.tuple (ns.map PyData.int)) = true := by
  have h1 := PySem.W.depthAll_ints ns
  have h2 : PyData.depth (.tuple (ns.map PyData.int)) ≤ 64 := by simp only [PyData.depth]; omega
  show (PyData.canLay0 (.tuple (ns.map PyData.int)) && decide (PyData.depth (.tuple (ns.map PyData.int)) ≤ 64)) = true
  rw [Bool.and_eq_true]
  exact ⟨by simp only [PyData.canLay0]; exact PySem.W.canLayAll0_ints ns, decide_eq_true h2⟩
end
section
open PySem.SeqAt PyProof.V
variable {X : Cx}
/-- tuples of ints -/
def rEqTI (K : PySem.W.Frag) (neg : Bool) : R2 := fun x y H Q => ∃ ns ms, TupI K H x ns ∧ TupI K H y ms ∧ Q (.bl (if neg then !decide (ns = ms) else decide (ns = ms))) H
theorem op_eqTI (hu : X.A.units + 64 < cLine) : OpR X (compareOp .Eq) (rEqTI X.K false) := by
  intro pins s σ H x y v u Q I rx ry h
  obtain ⟨ns, ms, h1, h2, q⟩ := h
  refine eq_dataH_same (I.tupI rx h1) (I.tupI ry h2) (shaped_ti ns) (shaped_ti ms) hu (by simp only [noMix]; exact PySem.W.noMix_ints ns ms) (fin_bl I q ?_)
  simp only [PySem.Spec.same]; rw [PySem.W.same_ints]; rfl
end
end L2

set_option linter.all false
set_option maxRecDepth 100000
set_option maxHeartbeats 4000000
namespace L2
open PySem PySem.Spec PyProof.Rows
/-! ### a comprehension -/
/-- the context of its block -/
def blk (X : Cx) (N' : List Str) (scope : Scope) (cl : List (Str × Addr)) (C : Addr) (fp : List Addr) (s0 : Shared) (H0 : Hp) : Cx :=
  { X with N := N', s₀ := s0, H₀ := H0, env := compEnvC scope cl C X.env, outer := X.stack, stack := X.stack, ex := fp, fn := fun _ => false, pn := [], xe := fun _ _ => False }
/-- what was known of the slots is known -/
def KeepS (a b : St) : Prop := b.length = a.length ∧ ∀ (i : Nat) v, a[i]? = some (some v) → b[i]? = some (some v)
theorem KeepS.none1 {v : Option V} : KeepS [none] [v] := ⟨rfl, fun i w h => by
  cases i with
  | zero => cases h
  | succ i => simp at h⟩
def tComp (wi : TI) (fr : St → St) (g : TG) (te : TE) : TE := fun σ H Q => wi σ H fun J H1 => ∀ D, H1 D = none → ∃ W : Nat → Nat → List V → Hp → Prop, (∃ m, W 0 m [] (upd H1 D (.lst []))) ∧
  ∀ i m ys H2, W i m ys H2 → (J.stop i H2 ∧ Q (.ref D) H2) ∨ (J.go i H2 ∧ ys.length < sizeLine ∧ ∀ x H3, J.yld i H2 x H3 → g x (fr σ) H3 fun σ2 H3' => KeepS (fr σ) σ2 ∧ te σ2 H3' fun y H4 =>
    H4 D = some (.lst ys) ∧ ∃ m', m' < m ∧ W (i + 1) m' (ys ++ [y]) (upd H4 D (.lst (ys ++ [y]))))
section
variable {X : Cx}
theorem blk_ok {pins : List (Addr × Obj)} {σ : St} {H : Hp} {s : Shared} {N' : List Str} {scope : Scope} {cl : List (Str × Addr)} {fp : List Addr} (I : Inv X pins σ H s) (hkind : scope.kind = .function)
    (hcl : ∀ y c, cl.lookup y = some c → X.env.cells.lookup y = some c) (hhas : ∀ y, ((relabel scope X.env).names.lookup y = some .cell ∨ (relabel scope X.env).names.lookup y = some .free) → ∃ c, cl.lookup y = some c)
    (hf : ∀ b ∈ fp, FpOk X pins H b) (hlt : ∀ b ∈ fp, b < s.heap.objs.size) : (blk X N' scope cl s.heap.objs.size fp s H).Ok where
  mod := I.ok.mod
  kind := by simp [blk, compEnvC, relabel, hkind]
  glob := I.ok.glob
  blt := I.ok.blt
  above := Nat.le_refl _
  inj := fun x y c h1 h2 => I.ok.inj x y c (hcl x c h1) (hcl y c h2)
  has := fun x h => hhas x h
  cab := fun x c h => nomatch h
  hd := I.ok.hd
  frames := I.ok.frames
  stk := .inl rfl
  exf := fun b hb => ⟨Nat.ne_of_lt (hlt b hb), fun x c e => (hf b hb).2.2.2.2.1 x c (hcl x c e)⟩
  bs := I.bs
  bsz := Nat.le_trans I.ok.bsz I.sz
  noex := fun b o e hb => by
    rcases (hf b hb).2.2.2.1 with z | z
    · exact I.ok.noex b o e z
    · exact absurd (Nat.lt_of_lt_of_le (Heap.lt_size e) (Nat.le_trans I.ok.bsz z)) (Nat.lt_irrefl _)
  exfs := fun b hb z => by
    rcases List.mem_cons.mp (I.stkSub b z) with e | e
    · exact (hf b hb).2.1 e
    · exact (hf b hb).2.2.1 e
  funs := I.stack
  frf := I.stkFree
theorem pe_lcomp {tg elt iter : Expr} {scope : Scope} {cl : List (Str × Addr)} {pos : Pos} {N' : List Str} {wi : TI} {fr : St → St} {g : TG} {te : TE}
    (hc : X.calm = true) (hi : PI X tg iter wi)
    (hg : ∀ C fp s0 H0, PG (blk X N' scope cl C fp s0 H0) tg g) (he : ∀ C fp s0 H0, PE (blk X N' scope cl C fp s0 H0) elt te)
    (hclos : closureFor scope X.env = pure cl) (hkind : scope.kind = .function) (hnames : ∀ x ∈ scope.names, x.2 = .local → scope.names.lookup x.1 = some .local) (hcell : ∀ y ∈ scope.names, y.2 ≠ .cell)
    (hcl : ∀ y c, cl.lookup y = some c → X.env.cells.lookup y = some c) (hhas : ∀ y, ((relabel scope X.env).names.lookup y = some .cell ∨ (relabel scope X.env).names.lookup y = some .free) → ∃ c, cl.lookup y = some c)
    (hfl : ∀ σ : St, σ.length = X.N.length → (fr σ).length = N'.length)
    (hfr : ∀ (σ : St) (i : Nat) (y : Str) (v : V), N'[i]? = some y → (fr σ)[i]? = some (some v) → ∃ j : Nat, X.N[j]? = some y ∧ σ[j]? = some (some v) ∧ X.env.kindOf y = some .cell ∧ (relabel scope X.env).names.lookup y = some .cell)
    (hs : ∀ x, foldedSetIterable iter X.env x = pure x := by intro _; rfl) :
    PE X (.ListComp elt [⟨tg, iter, [], 0⟩] scope pos) (tComp wi fr g te) := by
  intro pins s σ H Q I h
  rw [eval_ListComp]
  refine wpAny_comprehension_free (use := none) rfl hs hclos hkind hnames ?_
  refine thn (hi pins s σ H _ I h) fun v s1 h1 => thn h1 fun itv s2 h2 => ?_
  obtain ⟨it, fp, tn, J, H2, rfl, I2, T, st2, f2, q2⟩ := h2
  have D0 : H2 s2.heap.objs.size = none := I2.hok.fresh (Nat.le_refl _)
  obtain ⟨W, ⟨m0, w0⟩, turn⟩ := q2 _ D0
  refine wpAny_newObj_type (wpAny_newFunctionEnv hcell (by intro y hy; simp at hy) (fun h₁ hns₁ hsb₁ => ?_) hkind)
  dsimp only at hns₁ hsb₁ ⊢
  have I3 : Inv X pins σ (upd H2 s2.heap.objs.size (.lst [])) { s2 with heap := s2.heap.push { cls := .type "list", dict := none, data := .seq ([] : List Value).toArray } } :=
    I2.laid (t' := s2.toks) (fun b u e => Heap.get?_push_of_some _ e) (Nat.le_refl _) ⟨Nat.zero_le _, [], _, .nil, Heap.get?_push_size _ rfl⟩
  generalize hH3 : upd H2 s2.heap.objs.size (.lst []) = H3 at I3 w0
  generalize hs3 : ({ s2 with heap := s2.heap.push { cls := .type "list", dict := none, data := .seq ([] : List Value).toArray } } : Shared) = s3 at I3
  have eh : s3.heap = s2.heap.push { cls := .type "list", dict := none, data := .seq ([] : List Value).toArray } := by rw [← hs3]
  have fl : ∀ b ∈ fp, b < s2.heap.objs.size := fun b hb => by
    obtain ⟨o, e, _⟩ := T.obj 0 _ st2 b hb
    exact Heap.lt_size e
  have fn : ∀ b ∈ fp, H3 b = none := fun b hb => by
    rw [← hH3, upd_ne (Nat.ne_of_lt (fl b hb))]; exact (f2 b hb).1
  have f3 : ∀ b ∈ fp, FpOk X pins H3 b := fun b hb => ⟨fn b hb, (f2 b hb).2⟩
  have old : ∀ b u, s3.heap.get? b = some u → h₁.get? b = some u := fun b u e => by
    refine hsb₁.extBut b u ?_ (Heap.get?_push_of_some _ (by rw [← eh]; exact e))
    have := Heap.lt_size e
    rw [eh] at this
    exact Nat.ne_of_lt this
  have up : ∀ b u, s2.heap.get? b = some u → s3.heap.get? b = some u := fun b u e => by rw [eh]; exact Heap.get?_push_of_some _ e
  have ok := blk_ok (N' := N') (scope := scope) (cl := cl) (fp := fp) I3 hkind hcl hhas f3 fun b hb => by rw [eh, Heap.size_push]; exact Nat.lt_succ_of_lt (fl b hb)
  rw [← eh] at hns₁ ⊢
  have IB : Inv (blk X N' scope cl s3.heap.objs.size fp s3 H3) [] (fr σ) H3 { s3 with heap := h₁, toks := s2.toks + ([] : List (Str × Value)).length } := by
    refine ⟨ok, rfl, I3.bare, Un.kept old, ⟨_, hns₁, fun i y v e1 e2 e3 => ?_⟩, fun x c e => ?_, I3.hok.fresh (Nat.le_refl _), fun x c e => I3.freeC x c (hcl x c e), fun p hp => by simp [blk] at hp, I3.hok.kept old, hfl σ I3.len⟩
    · obtain ⟨j, n1, n2, n3, n4⟩ := hfr σ i y v e1 e2
      obtain ⟨m, _, hl⟩ := I3.loc
      obtain ⟨u, r, l⟩ := hl j y v n1 n2 (.inr (.inl n3))
      refine ⟨u, r, .inr ⟨.inl n4, ?_⟩⟩
      rcases l with ⟨k, _⟩ | ⟨_, c, e, ic⟩
      · rw [n3] at k; cases k
      · obtain ⟨c', e'⟩ := hhas y (.inl n4)
        have e'' := hcl y c' e'
        rw [e] at e''; cases e''
        obtain ⟨o, ho, hd⟩ := ic
        exact ⟨c, e', o, old c o ho, hd⟩
    · obtain ⟨v, o, ho, hd⟩ := I3.cell x c (hcl x c e)
      exact ⟨v, o, old c o ho, hd⟩
  have stB : tn 0 h₁ := T.keep _ _ _ st2 fun b hb o e => old b o (up b o e)
  have D2 : s2.heap.objs.size < s3.heap.objs.size := by rw [eh, Heap.size_push]; exact Nat.lt_succ_self _
  have stat : ∀ {H' : Hp}, (∀ b ∈ fp, H' b = none) → ∀ b ∈ fp, FpOk (blk X N' scope cl s3.heap.objs.size fp s3 H3) [] H' b := fun hn b hb =>
    ⟨hn b hb, Nat.ne_of_lt (Nat.lt_trans (fl b hb) D2), ok.exfs b hb, .inl hb, fun x c e => (ok.exf b hb).2 x c e, fun p hp => by simp [blk] at hp⟩
  have loop : codeAny (model X.prog X.w) X.A (.compLoop (.ListComp elt [⟨tg, iter, [], 0⟩] scope pos) 0 (.ref it) (.ref s2.heap.objs.size) (compEnvC scope cl s3.heap.objs.size X.env))
      (compPost (model X.prog X.w) X.A X.xe none (EP X pins σ Q) (.ref s2.heap.objs.size) s3.heap.objs.size) { s3 with heap := h₁, toks := s2.toks + ([] : List (Str × Value)).length } := by
    refine codeAny_loop rfl (fun n s' => ∃ i ys H', Inv (blk X N' scope cl s3.heap.objs.size fp s3 H3) [] (fr σ) H' s' ∧ tn i s'.heap ∧ (∀ b ∈ fp, H' b = none) ∧ W i n ys H') ?_ m0 ⟨0, [], H3, IB, stB, fn, w0⟩
    rintro n s4 ⟨i, ys, H4, I4, st4, fr4, w4⟩
    show wpAny _ _ ((compTurn (.ListComp elt [⟨tg, iter, [], 0⟩] scope pos) 0 (.ref it) (.ref s2.heap.objs.size) (compEnvC scope cl s3.heap.objs.size X.env)).onRaise (fun x => do noteFrame x (compEnvC scope cl s3.heap.objs.size X.env); theTreesLotGoes x)) _ _ s4
    refine wpAny_noted ?_
    rw [compTurn_list1]
    refine wpAny_bind (wpAny_standAt (wpAny_bind ?_))
    rcases turn i n ys H4 w4 with ⟨stop, qn⟩ | ⟨go, hz, step⟩
    · refine thn (T.done (blk X N' scope cl s3.heap.objs.size fp s3 H3) rfl rfl rfl hc i [] s4 (fr σ) H4 _ I4 (stat fr4) st4 stop) fun r s5 ⟨hr, I5⟩ => ?_
      subst hr
      refine wpAny_pure ?_
      obtain ⟨m, hn, _⟩ := I5.loc
      refine ⟨m, hn, fun h' sb => ⟨.ref s2.heap.objs.size, H4, ?_, rfl, qn⟩⟩
      have hb : ∀ b u, b ≠ s3.heap.objs.size → s5.heap.get? b = some u → h'.get? b = some u := fun b u n e => sb.extBut b u n e
      have hlt : ∀ b u, s3.heap.get? b = some u → b ≠ s3.heap.objs.size := fun b u e => Nat.ne_of_lt (Heap.lt_size e)
      have B := I5.base
      refine I3.call' (s' := { s5 with heap := h' }) (ch := fp) I5.os ⟨fun b o e n1 n2 n3 => hb b o (hlt b o e) (B.keep b o e n1 n2 n3), fun b o e n1 n2 n3 => ?_, B.free, fun b o e n1 => ?_, B.tups, B.frzs, B.tbls⟩ (fun a o e => ?_) I5.bare (fun b hb' => ?_)
      · obtain ⟨sl, z⟩ := B.slot b o e n1 n2 n3
        exact ⟨sl, hb b _ (hlt b o e) z⟩
      · obtain ⟨o', z⟩ := B.there b o e n1
        exact ⟨o', hb b _ (hlt b o e) z⟩
      · have nC : ∀ c u, H4 c = some u → c ≠ s3.heap.objs.size := fun c u z w => by
          have := I5.free
          rw [show (blk X N' scope cl s3.heap.objs.size fp s3 H3).env.locals = s3.heap.objs.size from rfl, ← w, z] at this
          cases this
        refine (I5.hok a o e).stay (fun c u hcu q => hb c u ?_ q) (fun _ q => q) fun _ _ q => q
        rcases hcu with z | z
        · rw [z]; exact nC a o e
        · exact nC c _ z
      · exact ⟨(f2 b hb').2.2.2.1, (f2 b hb').2.1, (f2 b hb').2.2.2.2.1, (f2 b hb').2.2.2.2.2⟩
    · refine thn (T.item (blk X N' scope cl s3.heap.objs.size fp s3 H3) rfl rfl rfl hc i [] s4 (fr σ) H4 _ I4 (stat fr4) st4 go) fun r s5 ⟨u, hr, h5⟩ => ?_
      subst hr
      refine wpAny_bind (thn h5 fun _ s6 ⟨x, H6, I6, r6, y6, st6, fr6⟩ => ?_)
      have I6' := I6.pinned (stat fr6) (T.obj _ _ st6)
      refine wpAny_bind (wpAny_mono (hg s3.heap.objs.size fp s3 H3 _ s6 (fr σ) H6 x u _ I6' r6 (step x H6 y6)) (fun _ s7 ⟨σ7, H7, I7, kp, q7⟩ => ?_) fun _ _ z => z.elim)
      refine wpAny_bind (wpAny_bind (wpAny_mono (he s3.heap.objs.size fp s3 H3 _ s7 σ7 H7 _ I7 q7) (fun v8 s8 ⟨y8, H8, I8, r8, hD, m', hm, w8⟩ => ?_) fun _ _ z => z.elim))
      have ap := mt_append (X := blk X N' scope cl s3.heap.objs.size fp s3 H3) _ s8 σ7 H8 (.ref s2.heap.objs.size) [y8] (.ref s2.heap.objs.size) [v8] (fun _ H9 => W (i + 1) m' (ys ++ [y8]) H9) I8 rfl (.cons r8 .nil) ⟨_, ys, y8, rfl, rfl, hD, hz, w8⟩
      refine wpAny_bind (wpAny_mono ap (fun _ s9 ⟨_, H9, I9, _, w9⟩ => wpAny_pure (wpAny_pure ⟨rfl, m', hm, i + 1, ys ++ [y8], H9, ?_, ?_, ?_, w9⟩)) fun _ _ z => z.elim)
      · exact I9.unpinned.weak (by rw [kp.1]) kp.2
      · exact T.keep _ _ _ st6 fun b hb o e => (I9.pin (b, o) (List.mem_append_right _ (List.mem_append_right _ (mem_pinsAt hb e)))).1
      · intro b hb
        obtain ⟨o, e, d⟩ := T.obj _ _ st6 b hb
        exact (I9.pin (b, o) (List.mem_append_right _ (List.mem_append_right _ (mem_pinsAt hb e)))).2.1
  subst hs3
  exact codeAny_compStart_list loop (T.self X.A 0 _ _ _ stB loop)
end
end L2

set_option linter.all false
set_option maxRecDepth 100000
set_option maxHeartbeats 4000000
namespace L2
open PySem PySem.Spec PyProof.Rows
/-! ### readings by what they give -/
def Gv (t : TE) (σ : St) (H : Hp) (R : V → Hp → Prop) : Prop := ∀ Q : VK, (∀ v H', R v H' → Q v H') → t σ H Q
def GvT (t : TT) (σ : St) (H : Hp) (R : Bool → Hp → Prop) : Prop := ∀ Q : Bool → Hp → Prop, (∀ v H', R v H' → Q v H') → t σ H Q
def GvA (t : TA) (σ : St) (H : Hp) (R : List V → Hp → Prop) : Prop := ∀ Q : List V → Hp → Prop, (∀ v H', R v H' → Q v H') → t σ H Q
/-- one value, the heap as it is -/
def Pu (t : TE) (σ : St) (H : Hp) (v : V) : Prop := ∀ Q : VK, Q v H → t σ H Q
def PuT (t : TT) (σ : St) (H : Hp) (b : Bool) : Prop := ∀ Q : Bool → Hp → Prop, Q b H → t σ H Q
def PuA (t : TA) (σ : St) (H : Hp) (vs : List V) : Prop := ∀ Q : List V → Hp → Prop, Q vs H → t σ H Q
section
variable {σ : St} {H : Hp} {t ta tb tc : TE} {x y z v : V} {i j : Int} {b c : Bool}
theorem Pu.gv' {R : V → Hp → Prop} (h : Pu t σ H v) (r : R v H) : Gv t σ H R := fun Q q => h Q (q v H r)
theorem Gv.imp {R R' : V → Hp → Prop} (h : Gv t σ H R) (f : ∀ v H', R v H' → R' v H') : Gv t σ H R' := fun Q q => h Q fun v H' r => q v H' (f v H' r)
theorem pu_v {k : Nat} (h : σ[k]? = some (some v)) : Pu (tVar k) σ H v := fun _ q => ⟨v, h, q⟩
theorem pu_c : Pu (tC v) σ H v := fun _ q => q
theorem pu_add (ha : Pu ta σ H (.int i)) (hb : Pu tb σ H (.int j)) : Pu (tOp (rI0 fun i j => .int (i + j)) ta tb) σ H (.int (i + j)) := fun _ q => ha _ (hb _ ⟨i, j, rfl, rfl, q⟩)
theorem pu_sub (ha : Pu ta σ H (.int i)) (hb : Pu tb σ H (.int j)) : Pu (tOp (rI0 fun i j => .int (i - j)) ta tb) σ H (.int (i - j)) := fun _ q => ha _ (hb _ ⟨i, j, rfl, rfl, q⟩)
theorem pu_mul (ha : Pu ta σ H (.int i)) (hb : Pu tb σ H (.int j)) (hm : IntMulOk i j) : Pu (tOp (rI IntMulOk fun i j => .int (i * j)) ta tb) σ H (.int (i * j)) := fun _ q => ha _ (hb _ ⟨i, j, rfl, rfl, hm, q⟩)
theorem pu_fdiv (ha : Pu ta σ H (.int i)) (hb : Pu tb σ H (.int j)) (hm : CDivB i j) : Pu (tOp (rI CDivB fun i j => .int (i.fdiv j)) ta tb) σ H (.int (i.fdiv j)) := fun _ q => ha _ (hb _ ⟨i, j, rfl, rfl, hm, q⟩)
theorem pu_mod (ha : Pu ta σ H (.int i)) (hb : Pu tb σ H (.int j)) (hm : j ≠ 0) : Pu (tOp (rI (fun _ j => j ≠ 0) fun i j => .int (i.fmod j)) ta tb) σ H (.int (i.fmod j)) := fun _ q => ha _ (hb _ ⟨i, j, rfl, rfl, hm, q⟩)
theorem pu_pow (ha : Pu ta σ H (.int i)) (hb : Pu tb σ H (.int j)) (hm : CPow i j) : Pu (tOp (rI CPow fun i j => .int (i ^ j.toNat)) ta tb) σ H (.int (i ^ j.toNat)) := fun _ q => ha _ (hb _ ⟨i, j, rfl, rfl, hm, q⟩)
theorem pu_neg (ha : Pu ta σ H (.int i)) : Pu (tUn (rU fun i => .int (-i)) ta) σ H (.int (-i)) := fun _ q => ha _ ⟨i, rfl, q⟩
theorem pu_lt (ha : Pu ta σ H (.int i)) (hb : Pu tb σ H (.int j)) : Pu (tOp (rI0 fun i j => .bl (decide (i < j))) ta tb) σ H (.bl (decide (i < j))) := fun _ q => ha _ (hb _ ⟨i, j, rfl, rfl, q⟩)
theorem pu_le (ha : Pu ta σ H (.int i)) (hb : Pu tb σ H (.int j)) : Pu (tOp (rI0 fun i j => .bl (decide (i ≤ j))) ta tb) σ H (.bl (decide (i ≤ j))) := fun _ q => ha _ (hb _ ⟨i, j, rfl, rfl, q⟩)
theorem pu_gt (ha : Pu ta σ H (.int i)) (hb : Pu tb σ H (.int j)) : Pu (tOp (rI0 fun i j => .bl (decide (j < i))) ta tb) σ H (.bl (decide (j < i))) := fun _ q => ha _ (hb _ ⟨i, j, rfl, rfl, q⟩)
theorem pu_ge (ha : Pu ta σ H (.int i)) (hb : Pu tb σ H (.int j)) : Pu (tOp (rI0 fun i j => .bl (decide (j ≤ i))) ta tb) σ H (.bl (decide (j ≤ i))) := fun _ q => ha _ (hb _ ⟨i, j, rfl, rfl, q⟩)
theorem pu_eqI (ha : Pu ta σ H (.int i)) (hb : Pu tb σ H (.int j)) : Pu (tOp rEq ta tb) σ H (.bl (decide (i = j))) := fun _ q => ha _ (hb _ ⟨rfl, by rw [dec_int, Bool.beq_eq_decide_eq]; exact q⟩)
theorem pu_neI (ha : Pu ta σ H (.int i)) (hb : Pu tb σ H (.int j)) : Pu (tOp rNe ta tb) σ H (.bl (!decide (i = j))) := fun _ q => ha _ (hb _ ⟨rfl, by rw [dec_int, Bool.beq_eq_decide_eq]; exact q⟩)
theorem pu_ixT {K : PySem.W.Frag} {p : Addr} {xs : List V} (ha : Pu ta σ H (.ref p)) (hb : Pu tb σ H (.int i)) (h : SqT K H p xs) (e : atI xs i = some v) : Pu (tOp (rIxT K) ta tb) σ H v := fun _ q => ha _ (hb _ ⟨p, xs, i, v, rfl, rfl, h, e, q⟩)
theorem pu_ixL {K : PySem.W.Frag} {p : Addr} {xs : List V} (ha : Pu ta σ H (.ref p)) (hb : Pu tb σ H (.int i)) (h : SqL K H p xs) (e : atI xs i = some v) : Pu (tOp (rIxL K) ta tb) σ H v := fun _ q => ha _ (hb _ ⟨p, xs, i, v, rfl, rfl, h, e, q⟩)
theorem pa_n : PuA tNil σ H [] := fun _ q => q
theorem pa_c {tr : TA} {vs : List V} (ha : Pu ta σ H x) (hr : PuA tr σ H vs) : PuA (tCons ta tr) σ H (x :: vs) := fun _ q => ha _ (hr _ q)
theorem pu_lenL {K : PySem.W.Frag} {p : Addr} {ys : List V} {t : TA} (ha : PuA t σ H [.ref p]) (h : SqL K H p ys) : Pu (tCB (fun xs H Q => ∃ p ys, xs = [.ref p] ∧ (SqL K H p ys ∨ SqT K H p ys) ∧ Q (.int ys.length) H) t) σ H (.int ys.length) := fun _ q => ha _ ⟨p, ys, rfl, .inl h, q⟩
theorem pu_lenT {K : PySem.W.Frag} {p : Addr} {ys : List V} {t : TA} (ha : PuA t σ H [.ref p]) (h : SqT K H p ys) : Pu (tCB (fun xs H Q => ∃ p ys, xs = [.ref p] ∧ (SqL K H p ys ∨ SqT K H p ys) ∧ Q (.int ys.length) H) t) σ H (.int ys.length) := fun _ q => ha _ ⟨p, ys, rfl, .inr h, q⟩
theorem pu_abs {t : TA} (ha : PuA t σ H [.int i]) : Pu (tCB (fun xs H Q => ∃ i, xs = [.int i] ∧ Q (.int (if i < 0 then -i else i)) H) t) σ H (.int (i.natAbs : Int)) := fun _ q => ha _ ⟨i, rfl, by
  rw [show (if i < 0 then -i else i) = (i.natAbs : Int) by split <;> omega]; exact q⟩
theorem pu_isi {K : PySem.W.Frag} {n : String} {u : Value} {t : TA} (ha : PuA t σ H [x, .ty n]) (ty : TyOf K H x u) (e : PySem.W.kitOne K u (.type n) = some b) :
    Pu (tCB (fun xs H Q => ∃ x n t b, xs = [x, .ty n] ∧ TyOf K H x t ∧ PySem.W.kitOne K t (.type n) = some b ∧ Q (.bl b) H) t) σ H (.bl b) := fun _ q => ha _ ⟨x, n, u, b, rfl, ty, e, q⟩
theorem pu_eqT {K : PySem.W.Frag} {ns ms : List Int} (ha : Pu ta σ H x) (hb : Pu tb σ H y) (h1 : TupI K H x ns) (h2 : TupI K H y ms) : Pu (tOp (rEqTI K false) ta tb) σ H (.bl (decide (ns = ms))) := fun _ q => ha _ (hb _ ⟨ns, ms, h1, h2, q⟩)
/-! tests -/
theorem pt_t (h : Pu t σ H (.bl b)) : PuT (tTest t) σ H b := fun _ q => h _ ⟨b, rfl, q⟩
theorem pt_b (h : Pu t σ H (.bl b)) : PuT (tB t) σ H b := fun _ q => h _ ⟨b, rfl, q⟩
theorem pt_n {t : TT} (h : PuT t σ H b) : PuT (tNot t) σ H (!b) := fun _ q => h _ q
theorem pt_and {t u : TT} (h : PuT t σ H b) (g : b = true → PuT u σ H c) : PuT (tAnd t u) σ H (b && c) := fun Q q => h _ (by
  cases b with
  | true => rw [if_pos rfl]; exact g rfl Q (by simpa using q)
  | false => rw [if_neg Bool.false_ne_true]; simpa using q)
theorem pt_or {t u : TT} (h : PuT t σ H b) (g : b = false → PuT u σ H c) : PuT (tOr t u) σ H (b || c) := fun Q q => h _ (by
  cases b with
  | false => rw [if_neg Bool.false_ne_true]; exact g rfl Q (by simpa using q)
  | true => rw [if_pos rfl]; simpa using q)
theorem pu_and (h : Pu ta σ H (.bl b)) (g : b = true → Pu tb σ H (.bl c)) : Pu (tAndV ta tb) σ H (.bl (b && c)) := fun Q q => h _ ⟨b, rfl, by
  cases b with
  | true => rw [if_pos rfl]; exact g rfl Q (by simpa using q)
  | false => rw [if_neg Bool.false_ne_true]; simpa using q⟩
theorem pu_not (h : Pu ta σ H (.bl b)) : Pu (tNotV ta) σ H (.bl (!b)) := fun _ q => h _ ⟨b, rfl, q⟩
/-! tests with calls that lay things -/
theorem gt_b {R : V → Hp → Prop} (h : Gv t σ H R) (f : ∀ v H', R v H' → ∃ c, v = .bl c) : GvT (tB t) σ H (fun c H' => R (.bl c) H') := fun Q q => h _ fun v H' r => by
  obtain ⟨c, rfl⟩ := f v H' r
  exact ⟨c, rfl, q c H' r⟩
theorem gt_n {t : TT} {R : Bool → Hp → Prop} (h : GvT t σ H R) : GvT (tNot t) σ H (fun c H' => R (!c) H') := fun Q q => h _ fun v H' r => q _ H' (by simpa using r)
theorem gt_or {t u : TT} {R R' : Bool → Hp → Prop} (h : GvT t σ H R) (g : ∀ H', R false H' → GvT u σ H' R') (e : ∀ H', R true H' → R' true H') : GvT (tOr t u) σ H R' := fun Q q => h _ fun v H' r => by
  cases v with
  | false => rw [if_neg Bool.false_ne_true]; exact g H' r Q q
  | true => rw [if_pos rfl]; exact q _ _ (e H' r)
theorem gt_and {t u : TT} {R R' : Bool → Hp → Prop} (h : GvT t σ H R) (g : ∀ H', R true H' → GvT u σ H' R') (e : ∀ H', R false H' → R' false H') : GvT (tAnd t u) σ H R' := fun Q q => h _ fun v H' r => by
  cases v with
  | true => rw [if_pos rfl]; exact g H' r Q q
  | false => rw [if_neg Bool.false_ne_true]; exact q _ _ (e H' r)
theorem PuT.gt {t : TT} {R : Bool → Hp → Prop} (h : PuT t σ H b) (r : R b H) : GvT t σ H R := fun Q q => h Q (q _ _ r)
/-! statements -/
variable {te : TE} {D : Ends} {rest u : TS} {k : Nat}
theorem st_set (h : Pu te σ H v) (q : rest D (σ.set k (some v)) H) : tSeq (tAsg te (gName k)) rest D σ H := h _ q
theorem st_setG {R : V → Hp → Prop} (h : Gv te σ H R) (q : ∀ v H', R v H' → rest D (σ.set k (some v)) H') : tSeq (tAsg te (gName k)) rest D σ H := h _ q
theorem st_set1 (h : Pu te σ H v) (q : D.nx (σ.set k (some v)) H) : tAsg te (gName k) D σ H := h _ q
theorem st_setG1 {R : V → Hp → Prop} (h : Gv te σ H R) (q : ∀ v H', R v H' → D.nx (σ.set k (some v)) H') : tAsg te (gName k) D σ H := h _ q
theorem st_ret (h : Pu te σ H v) (q : D.rt v H) : tRet te D σ H := h _ q
theorem st_retG {R : V → Hp → Prop} (h : Gv te σ H R) (q : ∀ v H', R v H' → D.rt v H') : tRet te D σ H := h _ q
theorem st_exprG {R : V → Hp → Prop} (h : Gv te σ H R) (q : ∀ v H', R v H' → rest D σ H') : tSeq (tDrop te) rest D σ H := h _ q
theorem st_exprG1 {R : V → Hp → Prop} (h : Gv te σ H R) (q : ∀ v H', R v H' → D.nx σ H') : tDrop te D σ H := h _ q
theorem st_if {tc : TT} {t u : TS} (h : PuT tc σ H b) (q1 : b = true → t { D with nx := rest D } σ H) (q2 : b = false → u { D with nx := rest D } σ H) : tSeq (tIfS tc t u) rest D σ H := h _ (by
  cases b with
  | true => rw [if_pos rfl]; exact q1 rfl
  | false => rw [if_neg Bool.false_ne_true]; exact q2 rfl)
theorem st_if1 {tc : TT} {t u : TS} (h : PuT tc σ H b) (q1 : b = true → t D σ H) (q2 : b = false → u D σ H) : tIfS tc t u D σ H := h _ (by
  cases b with
  | true => rw [if_pos rfl]; exact q1 rfl
  | false => rw [if_neg Bool.false_ne_true]; exact q2 rfl)
theorem st_ifG {tc : TT} {t u : TS} {R : Bool → Hp → Prop} (h : GvT tc σ H R) (q1 : ∀ H', R true H' → t { D with nx := rest D } σ H') (q2 : ∀ H', R false H' → u { D with nx := rest D } σ H') : tSeq (tIfS tc t u) rest D σ H := h _ fun b H' r => by
  cases b with
  | true => rw [if_pos rfl]; exact q1 H' r
  | false => rw [if_neg Bool.false_ne_true]; exact q2 H' r
theorem st_ifG1 {tc : TT} {t u : TS} {R : Bool → Hp → Prop} (h : GvT tc σ H R) (q1 : ∀ H', R true H' → t D σ H') (q2 : ∀ H', R false H' → u D σ H') : tIfS tc t u D σ H := h _ fun b H' r => by
  cases b with
  | true => rw [if_pos rfl]; exact q1 H' r
  | false => rw [if_neg Bool.false_ne_true]; exact q2 H' r
/-! calls -/
variable {sp : Sp} {E : XK}
theorem pu_call {t : TA} {vs : List V} (h : PuA t σ H vs) (hs : ∀ Q, Q v H → sp (vs ++ []) H Q E) : Pu (tCall sp [] E t) σ H v := fun Q q => h _ (hs Q q)
theorem gv_call {t : TA} {vs : List V} {R : V → Hp → Prop} (h : PuA t σ H vs) (hs : ∀ Q : VK, (∀ v H', R v H' → Q v H') → sp (vs ++ []) H Q E) : Gv (tCall sp [] E t) σ H R := fun Q q => h _ (hs Q q)
theorem gv_callA {t : TA} {R : V → Hp → Prop} {RA : List V → Hp → Prop} (h : GvA t σ H RA) (hs : ∀ vs H1, RA vs H1 → ∀ Q : VK, (∀ v H', R v H' → Q v H') → sp (vs ++ []) H1 Q E) : Gv (tCall sp [] E t) σ H R := fun Q q => h _ fun vs H1 r => hs vs H1 r Q q
theorem ga_pu {t : TA} {vs : List V} (h : PuA t σ H vs) : GvA t σ H (fun ws H' => ws = vs ∧ H' = H) := fun Q q => h _ (q _ _ ⟨rfl, rfl⟩)
/-! new tuples and lists -/
theorem gv_tup {t : TA} {vs : List V} (h : PuA t σ H vs) (hz : vs.length ≤ sizeLine) : Gv (tTup t) σ H (fun v H' => ∃ p, H p = none ∧ v = .ref p ∧ H' = upd H p (.tup vs)) := fun Q q => h _ ⟨hz, fun p hp => q _ _ ⟨p, hp, rfl, rfl⟩⟩
theorem gv_lst {t : TA} {vs : List V} (h : PuA t σ H vs) (hz : vs.length ≤ sizeLine) : Gv (tLst t) σ H (fun v H' => ∃ p, H p = none ∧ v = .ref p ∧ H' = upd H p (.lst vs)) := fun Q q => h _ ⟨hz, fun p hp => q _ _ ⟨p, hp, rfl, rfl⟩⟩
end
/-! ### frames of the heap -/
theorem Same.upd {H : Hp} {p : Addr} {o : HO} (h : H p = none) : Same H (upd H p o) := fun b u e => by rw [upd_ne (ne_of_none e h)]; exact e
theorem Same.tup {K : PySem.W.Frag} {H H' : Hp} {a : Addr} {xs : List V} (e : Same H H') (h : SqT K H a xs) : SqT K H' a xs := by
  rcases h with (h | ⟨o, h⟩) | h
  · exact .inl (.inl (e _ _ h))
  · exact .inl (.inr ⟨o, e _ _ h⟩)
  · exact .inr h
/-- all is as it was but at one place -/
def SameB (l : Addr) (H H' : Hp) : Prop := ∀ b o, H b = some o → b ≠ l → H' b = some o
theorem Same.b {H H' : Hp} {l : Addr} (e : Same H H') : SameB l H H' := fun b o h _ => e b o h
theorem SameB.refl (l : Addr) (H : Hp) : SameB l H H := fun _ _ h _ => h
theorem SameB.trans {l : Addr} {H H1 H2 : Hp} (a : SameB l H H1) (b : SameB l H1 H2) : SameB l H H2 := fun c o h n => b c o (a c o h n) n
theorem SameB.upd {l : Addr} {H : Hp} {o : HO} : SameB l H (upd H l o) := fun b u e n => by rw [upd_ne n]; exact e
/-! ### defs -/
structure Fn (K : PySem.W.Frag) (mg : Str → Option Value) (x : Str) (st : Stmt) (f : Addr) (fd : FuncData) (ps : List Str) : Prop where
  F : Fun K x x st f fd
  b : Binds K fd ps []
  m : mg x = some (.ref f)
section
variable {X : Cx} {x : Str} {st : Stmt} {f : Addr} {fd : FuncData} {ps : List Str} {sp : Sp} {k j : Nat} {e : Expr} {es : List Expr} {t : TA} {p pos : Pos}
theorem pe_fn (T : Fn X.K X.mg x st f fd ps) (G : FnOk X.prog X.w X.K X.mg X.base CX0 k f fd ps sp) (hr : Room j X.A) (hj : k ≤ j) (ha : PA X (e :: es) t) (hg : Gl X x := by rfl) (hdb : (x == ("__debug__" : Str)) = false := by decide)
    (he : starEach (e :: es) X.env = (false, eval e X.env) :: starEach es X.env := by rfl) (hpl : (backTo pos (starEach es X.env)).any (·.1) = false := by rfl) : PE X (.Call (.Name x p) (e :: es) [] pos) (tCall sp [] E0 t) :=
  pe_call G (hr.mono hj) hg T.m T.F.kp T.b .nil pass0 ha hdb he hpl
/-- a type's name -/
theorem pe_ty {n : Str} {T : String} {pos : Pos} (hm : X.mg n = none) (hv : bootBuiltins n = some (.type T)) (hg : Gl X n := by rfl) (hn : n ≠ "__name__" := by decide) (hd : (n == ("__debug__" : Str)) = false := by decide) : PE X (.Name n pos) (tC (.ty T)) :=
  pe_bltn hg hm hv rfl hn hd
end
/-! ### the forms one uses -/
end L2

set_option linter.all false
namespace L2
/-! ### lowest terms -/
theorem fdiv_mul_self {k x : Int} (h : k ≠ 0) : (k * x).fdiv k = x := Int.mul_fdiv_cancel_left x h
end L2

set_option linter.all false
namespace L2
/-! ### points of the plane by three numbers -/
structure Pt3 where
  x : Int
  y : Int
  z : Int
/-- in lowest terms at these homogeneous numbers -/
structure Is3 (A B C : Int) (r : Pt3) : Prop where
  pos : 0 < r.z
  cop : Int.gcd (Int.gcd r.z r.x) r.y = 1
  ex : ∃ d, 0 < d ∧ A = d * r.x ∧ B = d * r.y ∧ C = d * r.z
theorem pt_has {a b c : Int} (hc : 0 < c) : let d : Int := Int.gcd (Int.gcd c a) b; Is3 a b c ⟨a.fdiv d, b.fdiv d, c.fdiv d⟩ ∧ 0 < d := by
  intro d
  have p1 : 0 < Int.gcd c a := Int.gcd_pos_of_ne_zero_left a (by omega)
  have p2 : 0 < Int.gcd ((Int.gcd c a : Nat) : Int) b := Int.gcd_pos_of_ne_zero_left b (by omega)
  have hd : 0 < d := by show 0 < ((Int.gcd ((Int.gcd c a : Nat) : Int) b : Nat) : Int); omega
  have dg : d ∣ ((Int.gcd c a : Nat) : Int) := Int.gcd_dvd_left _ _
  obtain ⟨z, hz⟩ : d ∣ c := Int.dvd_trans dg (Int.gcd_dvd_left c a)
  obtain ⟨x, hx⟩ : d ∣ a := Int.dvd_trans dg (Int.gcd_dvd_right c a)
  obtain ⟨y, hy⟩ : d ∣ b := Int.gcd_dvd_right _ _
  have ex : a.fdiv d = x := by
    conv => lhs; arg 1; rw [hx]
    exact fdiv_mul_self (by omega)
  have ey : b.fdiv d = y := by
    conv => lhs; arg 1; rw [hy]
    exact fdiv_mul_self (by omega)
  have ez : c.fdiv d = z := by
    conv => lhs; arg 1; rw [hz]
    exact fdiv_mul_self (by omega)
  rw [ex, ey, ez]
  refine ⟨⟨?_, ?_, d, hd, hx, hy, hz⟩, hd⟩
  · show 0 < z
    by_cases h : 0 < z
    · exact h
    · have := Int.mul_nonpos_of_nonneg_of_nonpos (a := d) (b := z) (by omega) (by omega)
      omega
  · show Int.gcd ((Int.gcd z x : Nat) : Int) y = 1
    have h1 : Int.gcd c a = d.natAbs * Int.gcd z x := by
      conv => lhs; rw [hz, hx]
      exact Int.gcd_mul_left d z x
    have h2 : d.natAbs = d.natAbs * Int.gcd ((Int.gcd z x : Nat) : Int) y := by
      have h3 : ((Int.gcd c a : Nat) : Int) = d * ((Int.gcd z x : Nat) : Int) := by
        rw [h1]
        have : ((d.natAbs : Nat) : Int) = d := by omega
        rw [Int.natCast_mul, this]
      have h4 : Int.gcd ((Int.gcd c a : Nat) : Int) b = d.natAbs * Int.gcd ((Int.gcd z x : Nat) : Int) y := by
        conv => lhs; rw [h3, hy]
        exact Int.gcd_mul_left d _ y
      exact h4
    have h5 : d.natAbs * 1 = d.natAbs * Int.gcd ((Int.gcd z x : Nat) : Int) y := by rw [Nat.mul_one]; exact h2
    exact (Nat.eq_of_mul_eq_mul_left (by omega) h5).symm
theorem Is3.le {A B C : Int} {r : Pt3} (h : Is3 A B C r) : r.x.natAbs ≤ A.natAbs ∧ r.y.natAbs ≤ B.natAbs ∧ r.z.natAbs ≤ C.natAbs := by
  obtain ⟨d, hd, e1, e2, e3⟩ := h.ex
  have key : ∀ z, z.natAbs ≤ (d * z).natAbs := fun z => by
    rw [Int.natAbs_mul]
    calc z.natAbs = 1 * z.natAbs := (Nat.one_mul _).symm
      _ ≤ d.natAbs * z.natAbs := Nat.mul_le_mul_right _ (by omega)
  exact ⟨by rw [e1]; exact key _, by rw [e2]; exact key _, by rw [e3]; exact key _⟩
end L2

set_option linter.all false
set_option maxRecDepth 100000
set_option maxHeartbeats 4000000
namespace L2
open PySem PySem.Spec PyProof.Rows
section
variable {X : Cx}
def rGetL (K : PySem.W.Frag) : V → V → Hp → VK → Prop := fun x y H Q => ∃ p xs i v, x = .ref p ∧ y = .int i ∧ 0 ≤ i ∧ SqL K H p xs ∧ atI xs i = some v ∧ Q v H
theorem get_list : PGet X (rGetL X.K) := by
  intro pins s σ H x y v u Q I rx ry h
  obtain ⟨p, xs, i, z, rfl, rfl, h0, hq, he, q⟩ := h
  cases rx
  obtain ⟨t, rfl⟩ := ry
  obtain ⟨its, r, pl, hz⟩ := I.list hq
  obtain ⟨j, h1, h2, h3, h4, h5⟩ := atI_get he
  obtain ⟨w, ew, rw'⟩ := r.get h2
  have hn := line63
  have hj : i.toNat = j := by
    rw [seqIndex_of h0 h5] at h1
    exact Option.some.inj h1
  exact wpAny_getItem_list pl.isList h0 (by omega) (by rw [hj]; simpa using ew) ⟨z, H, I, rw', q⟩
end
section
variable {σ : St} {H : Hp} {D : Ends} {rest : TS} {te to ti : TE} {v : V} {p : Addr} {xs : List V} {k i : Int} {j : Nat}
theorem st_put (h : Pu te σ H v) (ho : Pu to σ H (.ref p)) (hi : Pu ti σ H (.int k)) (hp : H p = some (.lst xs)) (hj : ixN xs.length k = some j) (q : rest D σ (upd H p (.lst (xs.set j v)))) : tSeq (tAsg te (gSub to ti rSetL)) rest D σ H :=
  h _ (ho _ (hi _ ⟨p, xs, k, j, rfl, rfl, hp, hj, q⟩))
theorem st_put1 (h : Pu te σ H v) (ho : Pu to σ H (.ref p)) (hi : Pu ti σ H (.int k)) (hp : H p = some (.lst xs)) (hj : ixN xs.length k = some j) (q : D.nx σ (upd H p (.lst (xs.set j v)))) : tAsg te (gSub to ti rSetL) D σ H :=
  h _ (ho _ (hi _ ⟨p, xs, k, j, rfl, rfl, hp, hj, q⟩))
theorem st_augI {K : PySem.W.Frag} {f : Int → Int → Int} {a b : Int} (ho : Pu to σ H (.ref p)) (hi : Pu ti σ H (.int k)) (h0 : 0 ≤ k) (hp : H p = some (.lst xs)) (ha : atI xs k = some (.int a)) (h : Pu te σ H (.int b)) (hj : ixN xs.length k = some j)
    (q : rest D σ (upd H p (.lst (xs.set j (.int (f a b)))))) : tSeq (tAugS to ti te (rGetL K) (ipI f) rSetL) rest D σ H :=
  ho _ (hi _ ⟨p, xs, k, .int a, rfl, rfl, h0, SqL.of hp, ha, h _ ⟨a, b, rfl, rfl, p, xs, k, j, rfl, rfl, hp, hj, q⟩⟩)
theorem st_while {c : TT} {tb : TS} (Pv : St → Hp → Prop) (μ : St → Hp → Nat) (h0 : Pv σ H)
    (hs : ∀ σ H, Pv σ H → ∃ b, PuT c σ H b ∧ (b = true → tb { D with nx := fun σ' H' => Pv σ' H' ∧ μ σ' H' < μ σ H, ct := fun σ' H' => Pv σ' H' ∧ μ σ' H' < μ σ H, bk := rest D } σ H) ∧ (b = false → rest D σ H)) :
    tSeq (tWhile c tb) rest D σ H := by
  refine ⟨fun m σ H => m = μ σ H ∧ Pv σ H, ⟨_, rfl, h0⟩, ?_⟩
  rintro m σ H ⟨rfl, p⟩
  obtain ⟨b, hb, h1, h2⟩ := hs σ H p
  refine hb _ ?_
  cases b with
  | true => rw [if_pos rfl]; exact ⟨_, fun σ' H' ⟨p', l⟩ => ⟨_, l, rfl, p'⟩, h1 rfl⟩
  | false => rw [if_neg Bool.false_ne_true]; exact h2 rfl
theorem st_rangeG {g : TG} {tb : TS} {ta : TA} {R : List V → Hp → Prop} (ha : GvA ta σ H R)
    (hr : ∀ vs H1, R vs H1 → ∃ n : Int, vs = [.int n] ∧ -(2 ^ 62) ≤ n ∧ n < 2 ^ 62 ∧ ∃ Pv : Nat → St → Hp → Prop, Pv 0 σ H1 ∧
    (∀ (i : Nat) σ H, i < n.toNat → Pv i σ H → g (.int (0 + i)) σ H fun σ2 H2 => tb { D with nx := Pv (i + 1), ct := Pv (i + 1), bk := rest D } σ2 H2) ∧ (∀ σ H, Pv n.toNat σ H → rest D σ H)) :
    tSeq (tFor (iRng1 ta) g tb) rest D σ H :=
  ha _ fun vs H1 r => by
    obtain ⟨n, rfl, h1, h2, Pv, h0, hs, hd⟩ := hr vs H1 r
    exact ⟨n, rfl, h1, h2, for_range (D := { D with nx := rest D }) Pv h0 hs hd⟩
/-- for x in xs -/
theorem st_list {K : PySem.W.Frag} {g : TG} {tb : TS} {a : Addr} (ha : Pu te σ H (.ref a)) (Pv : Nat → St → Hp → Prop) (h0 : Pv 0 σ H) (hl : ∀ i σ H, i ≤ xs.length → Pv i σ H → SqL K H a xs)
    (hs : ∀ (i : Nat) x σ H, xs[i]? = some x → Pv i σ H → g x σ H fun σ2 H2 => tb { D with nx := Pv (i + 1), ct := Pv (i + 1), bk := rest D } σ2 H2) (hd : ∀ σ H, Pv xs.length σ H → rest D σ H) :
    tSeq (tFor (iList K te) g tb) rest D σ H :=
  ha _ ⟨a, rfl, ⟨xs, hl 0 σ H (Nat.zero_le _) h0⟩, for_list (D := { D with nx := rest D }) Pv h0 hl hs hd⟩
end
/-- a tuple of ints that is tracked -/
def TupT (H : Hp) (v : V) (ns : List Int) : Prop := ∃ a, v = .ref a ∧ H a = some (.tup (ns.map V.int))
theorem TupT.i {K : PySem.W.Frag} {H : Hp} {v : V} {ns : List Int} (h : TupT H v ns) : TupI K H v ns := by
  obtain ⟨a, rfl, h⟩ := h
  exact ⟨a, rfl, SqT.of h⟩
theorem TupT.same {H H' : Hp} {v : V} {ns : List Int} (h : TupT H v ns) (e : Same H H') : TupT H' v ns := by
  obtain ⟨a, rfl, h⟩ := h
  exact ⟨a, rfl, e _ _ h⟩
theorem TupT.sameB {H H' : Hp} {l : Addr} {ys : List V} {v : V} {ns : List Int} (h : TupT H v ns) (e : SameB l H H') (hl : H l = some (.lst ys)) : TupT H' v ns := by
  obtain ⟨a, rfl, h⟩ := h
  exact ⟨a, rfl, e _ _ h (ne_of h hl (by intro z; cases z))⟩
theorem TupT.of {H : Hp} {a : Addr} {ns : List Int} (h : H a = some (.tup (ns.map V.int))) : TupT H (.ref a) ns := ⟨a, rfl, h⟩
theorem Bd.small {i : Int} {n : Nat} (h : i.natAbs < 2 ^ 64 := by decide) (e : 64 ≤ n := by decide) : Bd n i := Bd.mono (m := 64) h e
/-! ### no cell in a block -/
theorem noCells {names : List (Str × NameKind)} {cl : List (Str × Addr)} (h : (names.all fun p => p.2 != .cell && p.2 != .free) = true) : ∀ y, (names.lookup y = some .cell ∨ names.lookup y = some .free) → ∃ c, cl.lookup y = some c := by
  intro y hy
  exfalso
  have key : ∀ (l : List (Str × NameKind)) (k : NameKind), l.lookup y = some k → ∃ p ∈ l, p.2 = k := by
    intro l k
    induction l with
    | nil => intro e; cases e
    | cons p r ih =>
      intro e
      rw [List.lookup_cons] at e
      split at e
      · exact ⟨p, List.mem_cons_self, Option.some.inj e⟩
      · obtain ⟨q, hq, eq⟩ := ih e
        exact ⟨q, List.mem_cons_of_mem _ hq, eq⟩
  rw [List.all_eq_true] at h
  rcases hy with e | e
  · obtain ⟨p, hp, eq⟩ := key _ _ e
    have := h p hp
    rw [eq] at this
    exact absurd this (by decide)
  · obtain ⟨p, hp, eq⟩ := key _ _ e
    have := h p hp
    rw [eq] at this
    exact absurd this (by decide)
/-! ### the greatest common divisor -/
theorem gcd_step {x y : Int} (h1 : 0 ≤ x) (h2 : 0 ≤ y) : Int.gcd y (x.fmod y) = Int.gcd x y := by
  rw [Int.fmod_eq_emod_of_nonneg _ h2]
  obtain ⟨m, rfl⟩ := Int.eq_ofNat_of_zero_le h1
  obtain ⟨n, rfl⟩ := Int.eq_ofNat_of_zero_le h2
  rw [← Int.natCast_emod]
  show Nat.gcd n (m % n) = Nat.gcd m n
  rw [Nat.gcd_comm, ← Nat.gcd_rec, Nat.gcd_comm]
theorem fmod_lt {x y : Int} (h2 : 0 < y) : 0 ≤ x.fmod y ∧ x.fmod y < y := by
  rw [Int.fmod_eq_emod_of_nonneg _ (Int.le_of_lt h2)]
  exact ⟨Int.emod_nonneg _ (by omega), Int.emod_lt_of_pos _ h2⟩
theorem gcd_zero (x : Int) (h : 0 ≤ x) : ((Int.gcd x 0 : Nat) : Int) = x := by
  rw [Int.gcd_zero_right]; omega
/-! ### more statements -/
section
variable {σ : St} {H : Hp} {D : Ends} {rest : TS} {te : TE} {b : Bool} {k : Nat} {v0 : V}
theorem st_ifN {tc : TT} {t : TS} (h : PuT tc σ H b) (q1 : b = true → t { D with nx := rest D } σ H) (q2 : b = false → rest D σ H) : tSeq (tIfS tc t tNext) rest D σ H := st_if h q1 q2
theorem st_ifNG {tc : TT} {t : TS} {R : Bool → Hp → Prop} (h : GvT tc σ H R) (q1 : ∀ H', R true H' → t { D with nx := rest D } σ H') (q2 : ∀ H', R false H' → rest D σ H') : tSeq (tIfS tc t tNext) rest D σ H := st_ifG h q1 q2
theorem st_ifN1 {tc : TT} {t : TS} (h : PuT tc σ H b) (q1 : b = true → t D σ H) (q2 : b = false → D.nx σ H) : tIfS tc t tNext D σ H := st_if1 h q1 q2
theorem st_ifNG1 {tc : TT} {t : TS} {R : Bool → Hp → Prop} (h : GvT tc σ H R) (q1 : ∀ H', R true H' → t D σ H') (q2 : ∀ H', R false H' → D.nx σ H') : tIfS tc t tNext D σ H := st_ifG1 h q1 q2
theorem st_ifSet {tc : TT} {R : V → Hp → Prop} (hc : PuT tc σ H b) (he : b = true → Gv te σ H R) (h0 : σ.set k (some v0) = σ) (r0 : b = false → R v0 H) (q : ∀ v H', R v H' → rest D (σ.set k (some v)) H') :
    tSeq (tIfS tc (tAsg te (gName k)) tNext) rest D σ H := by
  refine st_if hc (fun e => st_setG1 (he e) q) fun e => ?_
  have := q v0 H (r0 e)
  rw [h0] at this
  exact this
end
section
variable {σ : St} {H : Hp} {D : Ends} {rest : TS} {te to : TE} {l : Addr} {xs : List V} {K : PySem.W.Frag}
theorem st_app1 {R : V → Hp → Prop} (ho : Pu to σ H (.ref l)) (hl : H l = some (.lst xs)) (he : Gv te σ H R) (q : ∀ v H', R v H' → ∃ ys, H' l = some (.lst ys) ∧ ys.length < sizeLine ∧ D.nx σ (upd H' l (.lst (ys ++ [v])))) :
    tDrop (tBM K "list" rAppend to (tCons te tNil)) D σ H :=
  ho _ ⟨.inl ⟨rfl, _, SqL.of hl⟩, he _ fun v H' r => by
    obtain ⟨ys, h1, h2, h3⟩ := q v H' r
    exact ⟨l, ys, v, rfl, rfl, h1, h2, h3⟩⟩
end
/-! ### comprehensions by what they give -/
section
variable {σ : St} {H : Hp} {te tl : TE} {fr : St → St} {k : Nat} {K : PySem.W.Frag}
/-- over a tuple, the element's value hangs on the item alone -/
theorem gv_compP {a : Addr} {xs : List V} (f : V → V) (hl : Pu tl σ H (.ref a)) (ha : SqT K H a xs) (hz : xs.length ≤ 1000) (hk : ∀ x, KeepS (fr σ) ((fr σ).set k (some x)))
    (hs : ∀ x ∈ xs, ∀ H', Same H H' → Pu te ((fr σ).set k (some x)) H' (f x)) : Gv (tComp (iTup K tl) fr (gName k) te) σ H (fun v H' => ∃ D, H D = none ∧ v = .ref D ∧ H' = upd H D (.lst (xs.map f))) := by
  intro Q g
  refine hl _ ⟨a, rfl, ⟨xs, ha⟩, fun D hD => ?_⟩
  refine ⟨fun i m ys H' => m = xs.length - i ∧ i ≤ xs.length ∧ ys = (xs.take i).map f ∧ H' = upd H D (.lst ys), ⟨_, rfl, Nat.zero_le _, rfl, rfl⟩, ?_⟩
  rintro i m ys H' ⟨rfl, hi, rfl, rfl⟩
  have s' : Same H (upd H D (.lst ((xs.take i).map f))) := Same.upd hD
  by_cases hlt : i < xs.length
  · refine .inr ⟨⟨xs, xs[i], s'.tup ha, by simp [hlt]⟩, ?_, fun x H3 y => ?_⟩
    · rw [List.length_map, List.length_take]; exact small1000 (by omega)
    obtain ⟨e, y⟩ := y
    subst e
    have ex := y xs (s'.tup ha)
    refine ⟨hk x, hs x (List.mem_of_getElem? ex) _ s' _ ⟨upd_same, xs.length - (i + 1), by omega, rfl, hlt, ?_, ?_⟩⟩
    · rw [List.take_succ, ex]; simp
    · rw [upd_upd]
  · have e : i = xs.length := by omega
    subst e
    refine .inl ⟨⟨xs, s'.tup ha, Nat.le_refl _⟩, g _ _ ⟨D, hD, rfl, by rw [List.take_length]⟩⟩
/-- all(..) of a list of bools, laid by the argument -/
theorem gv_all {R : V → Hp → Prop} (bs : List Bool) (h : Gv te σ H R) (f : ∀ v H', R v H' → ∃ p : Addr, v = .ref p ∧ SqL K H' p (bs.map V.bl)) :
    Gv (tCB (fun xs H Q => ∃ (p : Addr) (bs : List Bool), xs = [.ref p] ∧ SqL K H p (bs.map V.bl) ∧ Q (.bl (bs.all id)) H) (tCons te tNil)) σ H (fun v H' => (∃ p : Addr, R (.ref p) H') ∧ v = .bl (bs.all id)) := by
  intro Q g
  refine h _ fun v H' r => ?_
  obtain ⟨p, rfl, hp⟩ := f v H' r
  exact ⟨p, bs, rfl, hp, g _ _ ⟨⟨p, r⟩, rfl⟩⟩
theorem gv_andG {ta tb : TE} {R R' : V → Hp → Prop} (h : Gv ta σ H R) (f : ∀ v H', R v H' → ∃ c, v = .bl c ∧ (c = true → Gv tb σ H' R') ∧ (c = false → R' (.bl false) H')) : Gv (tAndV ta tb) σ H R' := by
  intro Q g
  refine h _ fun v H' r => ?_
  obtain ⟨c, rfl, h1, h2⟩ := f v H' r
  refine ⟨c, rfl, ?_⟩
  cases c with
  | true => rw [if_pos rfl]; exact h1 rfl Q g
  | false => rw [if_neg Bool.false_ne_true]; exact g _ _ (h2 rfl)
end
/-! ### tuples in lists -/
def TupsT (H : Hp) (vs : List V) (nss : List (List Int)) : Prop := Paired (TupT H) vs nss
theorem TupsT.mono {H H' : Hp} {vs : List V} {nss : List (List Int)} (h : TupsT H vs nss) (f : ∀ v ns, TupT H v ns → TupT H' v ns) : TupsT H' vs nss := Paired.mapP h f
theorem TupsT.get {H : Hp} : ∀ {vs : List V} {nss : List (List Int)} {i : Nat} {ns : List Int}, TupsT H vs nss → nss[i]? = some ns → ∃ v, vs[i]? = some v ∧ TupT H v ns
  | _, _, _, _, .nil, e => by simp at e
  | _, _, 0, _, .cons r _, e => by simp at e; subst e; exact ⟨_, rfl, r⟩
  | _, _, i + 1, ns, .cons _ t, e => by
    obtain ⟨u, h1, h2⟩ := TupsT.get (i := i) (ns := ns) t (by simpa using e)
    exact ⟨u, by simpa using h1, h2⟩
theorem TupsT.get' {H : Hp} {vs : List V} {nss : List (List Int)} {i : Nat} {v : V} (h : TupsT H vs nss) (e : vs[i]? = some v) : ∃ ns, nss[i]? = some ns ∧ TupT H v ns := by
  have hl := Paired.length h
  have hi : i < nss.length := by rw [← hl]; exact (List.getElem?_eq_some_iff.mp e).1
  obtain ⟨w, h1, h2⟩ := h.get (List.getElem?_eq_getElem hi)
  rw [h1] at e; cases e
  exact ⟨_, List.getElem?_eq_getElem hi, h2⟩
theorem TupsT.i {K : PySem.W.Frag} {H : Hp} {vs : List V} {nss : List (List Int)} (h : TupsT H vs nss) : Paired (TupI K H) vs nss := Paired.mapP h fun _ _ x => x.i
theorem TupsT.snoc {H : Hp} {vs : List V} {nss : List (List Int)} {v : V} {ns : List Int} (h : TupsT H vs nss) (x : TupT H v ns) : TupsT H (vs ++ [v]) (nss ++ [ns]) := Paired.snoc h x
theorem TupsT.len {H : Hp} {vs : List V} {nss : List (List Int)} (h : TupsT H vs nss) : vs.length = nss.length := Paired.length h
/-! ### the hand of a law -/
def HandAt (H : Hp) (hd sc : Addr) : Prop := ∃ (ns : List Int) (i b c p q : Int), H hd = some (.lst [.ref sc, .int i, .int b, .int c, .int p, .int q]) ∧ H sc = some (.lst (ns.map V.int)) ∧ 0 ≤ i
theorem HandAt.ne {H : Hp} {hd sc : Addr} {ns : List Int} {i b c p q : Int} (h1 : H hd = some (.lst [.ref sc, .int i, .int b, .int c, .int p, .int q])) (h2 : H sc = some (.lst (ns.map V.int))) : sc ≠ hd := by
  intro e
  subst e
  rw [h1] at h2
  cases ns with
  | nil => simp at h2
  | cons n r => simp at h2
theorem HandAt.same {H H' : Hp} {hd sc : Addr} (h : HandAt H hd sc) (e : Same H H') : HandAt H' hd sc := by
  obtain ⟨ns, i, b, c, p, q, h1, h2, h0⟩ := h
  exact ⟨ns, i, b, c, p, q, e _ _ h1, e _ _ h2, h0⟩
theorem HandAt.ls {H : Hp} {hd sc : Addr} (h : HandAt H hd sc) : ∃ ys, H hd = some (.lst ys) := by
  obtain ⟨ns, i, b, c, p, q, h1, _⟩ := h
  exact ⟨_, h1⟩
theorem HandAt.fresh {H : Hp} {hd sc l : Addr} (h : HandAt H hd sc) (hl : H l = none) : l ≠ hd ∧ l ≠ sc := by
  obtain ⟨ns, i, b, c, p, q, h1, h2, _⟩ := h
  exact ⟨Ne.symm (ne_of_none h1 hl), Ne.symm (ne_of_none h2 hl)⟩
theorem HandAt.upd {H : Hp} {hd sc l : Addr} {o : HO} (h : HandAt H hd sc) (n : l ≠ hd ∧ l ≠ sc) : HandAt (upd H l o) hd sc := by
  obtain ⟨ns, i, b, c, p, q, h1, h2, h0⟩ := h
  exact ⟨ns, i, b, c, p, q, by rw [upd_ne (Ne.symm n.1)]; exact h1, by rw [upd_ne (Ne.symm n.2)]; exact h2, h0⟩
end L2

set_option linter.all false
set_option maxRecDepth 100000
set_option maxHeartbeats 4000000
namespace L2
open PySem PySem.Spec PyProof.Rows
/-- a point laid as a tuple; how long its numbers are -/
def AtP (H : Hp) (v : V) (p : Pt3) : Prop := TupT H v [p.x, p.y, p.z]
/-! ### sums of fractions -/
/-! ### a comprehension that catches one name -/
/-! ### lists of points -/
end L2

set_option linter.all false
namespace L2
/-! ### what two sides share -/
theorem gcd3_rot (x y z : Int) : Int.gcd ((Int.gcd x y : Nat) : Int) z = Int.gcd ((Int.gcd z x : Nat) : Int) y := by
  rw [Int.gcd_comm, ← Int.gcd_assoc]
/-! ### the order of points -/
/-! ### on one line -/
end L2

set_option linter.all false
set_option maxRecDepth 100000
set_option maxHeartbeats 4000000
namespace L2
open PySem PySem.Spec PyProof.Rows
/-! ### tuples of points -/
section
variable {σ : St} {H : Hp} {ta tb te : TE} {K : PySem.W.Frag} {x y : V} {b : Bool} {D : Ends} {rest : TS}
theorem st_tupl {g : TG} {tb : TS} {a : Addr} {xs : List V} (ha : Pu te σ H (.ref a)) (Pv : Nat → St → Hp → Prop) (h0 : Pv 0 σ H) (hl : ∀ i σ H, i ≤ xs.length → Pv i σ H → SqT K H a xs)
    (hs : ∀ (i : Nat) x σ H, xs[i]? = some x → Pv i σ H → g x σ H fun σ2 H2 => tb { D with nx := Pv (i + 1), ct := Pv (i + 1), bk := rest D } σ2 H2) (hd : ∀ σ H, Pv xs.length σ H → rest D σ H) :
    tSeq (tFor (iTup K te) g tb) rest D σ H :=
  ha _ ⟨a, rfl, ⟨xs, hl 0 σ H (Nat.zero_le _) h0⟩, for_tup (D := { D with nx := rest D }) Pv h0 hl hs hd⟩
end
section
variable {σ : St} {H : Hp} {t : TA} {RA : List V → Hp → Prop} {R : V → Hp → Prop}
theorem gv_tupA (h : GvA t σ H RA) (f : ∀ vs H1, RA vs H1 → vs.length ≤ sizeLine ∧ ∀ p, H1 p = none → R (.ref p) (upd H1 p (.tup vs))) : Gv (tTup t) σ H R := fun Q q => h _ fun vs H1 r => ⟨(f vs H1 r).1, fun p hp => q _ _ ((f vs H1 r).2 p hp)⟩
theorem gv_lstA (h : GvA t σ H RA) (f : ∀ vs H1, RA vs H1 → vs.length ≤ sizeLine ∧ ∀ p, H1 p = none → R (.ref p) (upd H1 p (.lst vs))) : Gv (tLst t) σ H R := fun Q q => h _ fun vs H1 r => ⟨(f vs H1 r).1, fun p hp => q _ _ ((f vs H1 r).2 p hp)⟩
end
theorem pu_cast {t : TE} {σ : St} {H : Hp} {v w : V} (h : Pu t σ H v) (e : v = w) : Pu t σ H w := by rw [← e]; exact h
theorem GvT.imp {t : TT} {σ : St} {H : Hp} {R R' : Bool → Hp → Prop} (h : GvT t σ H R) (f : ∀ v H', R v H' → R' v H') : GvT t σ H R' := fun Q q => h Q fun v H' r => q v H' (f v H' r)
/-! ### sizes of what is told -/
end L2

set_option linter.all false
namespace L2
/-! ### just what is shared -/
end L2

set_option linter.all false
set_option maxRecDepth 100000
set_option maxHeartbeats 4000000
namespace L2
open PySem PySem.Spec PyProof.Rows
/-! ### zip -/
/-! ### the invariant behind a turn of several objects -/
section
variable {X : Cx} {pins : List (Addr × Obj)} {σ : St} {H : Hp} {s : Shared} {h' : Heap} {ch : List Addr}
theorem Inv.turnedL (I : Inv X pins σ H s) (k : ∀ b o, b ∉ ch → s.heap.get? b = some o → h'.get? b = some o) (f : ∀ b ∈ ch, FpOk X pins H b) : Inv X pins σ H { s with heap := h' } := by
  have no : ∀ b u, H b = some u → b ∉ ch := fun b u e hb => by have := (f b hb).1; rw [e] at this; cases this
  refine I.call' (s' := { s with heap := h' }) (ch := ch) rfl ⟨fun b o e _ _ n => k b o n e, fun b o e _ _ n => ⟨o.slots, k b o n e⟩, fun _ _ _ n _ => n, fun b o e n => ⟨o, k b o n e⟩, fun _ _ e => e, fun _ _ _ e => e, fun b ps e => ⟨#[], by rw [e]; simp⟩⟩ (fun a o e => ?_) I.bare fun b hb => ?_
  · refine (I.hok a o e).stay (fun c u hc q => k c u ?_ q) (fun _ q => q) fun _ _ q => q
    rcases hc with rfl | hc
    · exact no _ _ e
    · exact no _ _ hc
  · exact ⟨(f b hb).2.2.2.1, (f b hb).2.1, (f b hb).2.2.2.2.1, (f b hb).2.2.2.2.2⟩
theorem Inv.turnedT {x y : V} {u v : Value} (I : Inv X pins σ H s) (k : ∀ b o, b ∉ ch → s.heap.get? b = some o → h'.get? b = some o) (f : ∀ b ∈ ch, FpOk X pins H b) (hT : IsPair h' s.heap.objs.size u v) (ru : RelV x u) (rv : RelV y v) :
    Inv X pins σ (upd H s.heap.objs.size (.tup [x, y])) { s with heap := h' } := by
  have no : ∀ b u, H b = some u → b ∉ ch := fun b u e hb => by have := (f b hb).1; rw [e] at this; cases this
  have hn : H s.heap.objs.size = none := I.hok.fresh (Nat.le_refl _)
  have ne : ∀ {b : Addr} {o : Obj}, s.heap.get? b = some o → b ≠ s.heap.objs.size := fun e => Nat.ne_of_lt (Heap.lt_size e)
  refine I.call' (s' := { s with heap := h' }) (ch := ch) rfl ⟨fun b o e _ _ n => k b o n e, fun b o e _ _ n => ⟨o.slots, k b o n e⟩, fun b o e n _ => by rw [upd_ne (ne e)]; exact n, fun b o e n => ⟨o, k b o n e⟩, fun b xs e => by rw [upd_ne (ne_of_none e hn)]; exact e, fun b o u e => by rw [upd_ne (ne_of_none e hn)]; exact e, fun b ps e => ⟨#[], by rw [upd_ne (ne_of_none e hn), e]; simp⟩⟩ (fun a o e => ?_) I.bare fun b hb => ?_
  · by_cases ha : a = s.heap.objs.size
    · subst ha
      rw [upd_same] at e
      cases e
      exact ⟨by show 2 ≤ sizeLine; decide, [u, v], .cons ru (.cons rv .nil), ⟨_, hT, rfl, _, rfl⟩⟩
    · rw [upd_ne ha] at e
      refine (I.hok a o e).stay (fun c u hc q => k c u ?_ q) (fun c q => by rw [upd_ne (ne_of_none q hn)]; exact q) fun c xs q => by rw [upd_ne (ne_of_none q hn)]; exact q
      rcases hc with rfl | hc
      · exact no _ _ e
      · exact no _ _ hc
  · exact ⟨(f b hb).2.2.2.1, (f b hb).2.1, (f b hb).2.2.2.2.1, (f b hb).2.2.2.2.2⟩
end
/-! ### zip walked -/
/-! ### zip made -/
end L2

set_option linter.all false
set_option maxRecDepth 100000
set_option maxHeartbeats 4000000
namespace L2
open PySem PySem.Spec PyProof.Rows
/-! ### how far a point lies, how long its bottom is -/
/-! ### more readings -/
/-! ### lists of sides -/
end L2

set_option linter.all false
namespace L2
/-! ### one place, one tuple -/
end L2

set_option linter.all false
namespace L2
end L2

set_option linter.all false
set_option maxRecDepth 100000
set_option maxHeartbeats 4000000
namespace L2
open PySem PySem.Spec PyProof.Rows
/-! ### exceptions: how one lies behind a call -/
/-- an object of this class stands there -/
def isOf (a : Addr) (cls : Value) : Heap → Prop := fun h => ∃ o, h.get? a = some o ∧ o.cls = cls
/-- the ground B holds all that was there but the frames; the exception flies over it -/
structure Lay (P : Program) (w : World) (outer : List Env) (H H1 : Hp) (s : Shared) (ea : Addr) (B h : Heap) : Prop where
  hok : HOk P w H1 B
  new : H1 ea = none
  keep : ∀ b o, s.heap.get? b = some o → H b = none → b ∉ frs outer → B.get? b = some o
  slot : ∀ b o, s.heap.get? b = some o → H b = none → b ∈ frs outer → ∃ sl, h.get? b = some { o with slots := sl }
  there : ∀ b o, s.heap.get? b = some o → b ∉ frs outer → ∃ o', B.get? b = some o'
  free : ∀ b o, s.heap.get? b = some o → H b = none → H1 b = none
  tups : ∀ b xs, H b = some (.tup xs) → H1 b = some (.tup xs)
  frzs : ∀ b o u, H b = some (.frz o u) → H1 b = some (.frz o u)
  tbls : ∀ b ps, H b = some (.tbl ps) → ∃ more, H1 b = some (.tbl (ps ++ more))
/-! ### own classes of exceptions: each straight under one that is straight under ValueError -/
def veB : List Value := [.type "ValueError", .type "Exception", .type "BaseException", .type "object"]
def noInit (K : PySem.W.Frag) (N : Addr) : Bool := PySem.W.nsOkIn K N && (match PySem.W.nsIn K N "__init__" with | some none => true | _ => false)
theorem noInit_ns {K : PySem.W.Frag} {h : Heap} {N : Addr} (X : K.In h) (e : noInit K N = true) : ∃ m, h.Ns N m ∧ m "__init__" = none := by
  unfold noInit at e
  rw [Bool.and_eq_true] at e
  obtain ⟨e1, e2⟩ := e
  refine ⟨h.nsMap N, .of_isNs (PySem.W.isNs_of_in X e1), PySem.W.nsMap_none_of_in X e1 ?_⟩
  split at e2
  · assumption
  · cases e2
/-! ### raise -/
/-! ### a def that may raise -/
/-! ### try: name = f(..) except C as n -/
/-- within an except suite -/
abbrev Cx.suite (X : Cx) (ea : Addr) : Cx := { X with A := X.A.mark (some (.ref ea)), calm := false, xe := fun _ _ => False }
section
variable {X : Cx} {pins : List (Addr × Obj)} {σ : St} {H H1 : Hp} {s s' : Shared} {h : Heap} {ea : Addr}
theorem Cx.Ok.suite (ok : X.Ok) (ea : Addr) : (X.suite ea).Ok :=
  ⟨ok.mod, ok.kind, ok.glob, ok.blt, ok.above, ok.inj, ok.has, ok.cab, fun z => (nomatch z), ok.frames, ok.stk, ok.exf, ok.bs, ok.bsz, ok.noex, ok.exfs, ok.funs, ok.frf⟩
theorem Inv.suite (I : Inv X pins σ H s) (ea : Addr) : Inv (X.suite ea) pins σ H s := ⟨I.ok.suite ea, I.os, I.bare, I.base, I.loc, I.cell, I.free, I.freeC, I.pin, I.hok, I.len⟩
theorem Inv.unsuite (ok : X.Ok) (I : Inv (X.suite ea) pins σ H s) : Inv X pins σ H s := ⟨ok, I.os, I.bare, I.base, I.loc, I.cell, I.free, I.freeC, I.pin, I.hok, I.len⟩
/-- the catcher's state with the exception at hand -/
theorem Inv.caught {B : Heap} {cls a0 : Value} (I : Inv X pins σ H s) (L : Lay X.prog X.w X.stack H H1 s ea B s'.heap) (os : s'.os = s.os) (bare : AllBare s'.gens) (up : s'.heap.UpToSlots h) (fl : Heap.FlyingW B X.stack ea cls a0 h) :
    Inv X pins σ (upd H1 ea (.ext (isOf ea cls))) { s' with heap := h } := by
  have hf : ∀ b o, s.heap.get? b = some o → b ∈ frs X.stack → ∀ vs, o.data ≠ .fields vs := fun b o e hb => by
    obtain ⟨_, o', ho', hd'⟩ := I.stack.mem hb
    rw [e] at ho'; cases ho'; exact hd'
  obtain ⟨ob, vs, hob, hoc, hod, _⟩ := fl.first
  have slot : ∀ b o, s.heap.get? b = some o → H b = none → b ∈ frs X.stack → ∃ sl, h.get? b = some { o with slots := sl } := fun b o e n hb => by
    obtain ⟨sl, z⟩ := L.slot b o e n hb
    obtain ⟨sl2, z2⟩ := up b { o with slots := sl } z (hf b o e hb)
    exact ⟨sl2, z2⟩
  have ne : ∀ b o, s.heap.get? b = some o → b ≠ ea := fun b o e z => by
    subst z
    by_cases hb : b ∈ frs X.stack
    · obtain ⟨sl, q⟩ := slot b o e (I.stkFree b hb) hb
      rw [hob] at q
      cases q
      exact hf b o e hb _ hod
    · obtain ⟨o', q⟩ := L.there b o e hb
      rw [fl.2.1] at q; cases q
  have hB : HOk X.prog X.w H1 h := L.hok.kept fun b u q => fl.1 b u q
  refine I.call' (s' := { s' with heap := h }) (ch := []) os ⟨fun b o e n hb _ => fl.1 b o (L.keep b o e n hb), fun b o e n hb _ => slot b o e n hb, fun b o e n _ => by rw [upd_ne (ne b o e)]; exact L.free b o e n, fun b o e _ => ?_, fun b xs e => ?_, fun b o u e => ?_, fun b ps e => ?_⟩ (fun a o e => ?_) bare (fun _ z => nomatch z)
  · by_cases hb : b ∈ frs X.stack
    · obtain ⟨sl, q⟩ := slot b o e (I.stkFree b hb) hb
      exact ⟨_, q⟩
    · obtain ⟨o', q⟩ := L.there b o e hb
      exact ⟨o', fl.1 b o' q⟩
  · have := L.tups b xs e
    rw [upd_ne (ne_of_none this L.new)]; exact this
  · have := L.frzs b o u e
    rw [upd_ne (ne_of_none this L.new)]; exact this
  · obtain ⟨more, q⟩ := L.tbls b ps e
    exact ⟨more, by rw [upd_ne (ne_of_none q L.new)]; exact q⟩
  · by_cases ha : a = ea
    · subst ha
      rw [upd_same] at e
      cases e
      exact ⟨⟨ob, hob, hoc⟩, ⟨ob, hob⟩, fun h1 h2 ⟨o, e1, e2⟩ k => ⟨o, k o e1, e2⟩⟩
    · rw [upd_ne ha] at e
      exact (hB a o e).stay (fun _ _ _ q => q) (fun c q => by rw [upd_ne (ne_of_none q L.new)]; exact q) fun c xs q => by rw [upd_ne (ne_of_none q L.new)]; exact q
/-- a name is gone -/
theorem Inv.unset {j : Nat} {n : Str} {m : Str → Option Value} {v : Option Value} {h' : Heap} {t' : Nat} (I : Inv X pins σ H s) (hN : X.N.Nodup) (hj : X.N[j]? = some n) (hn : s.heap.Ns X.env.locals m)
    (hl : ∀ (i : Nat) (x : Str) (v : V), X.N[i]? = some x → σ[i]? = some (some v) → Vis X.env.scope x → ∃ u, RelV v u ∧ Look X.env s.heap m x u)
    (hn' : h'.Ns X.env.locals (fun x => if x = n then v else m x)) (hs : Heap.SameBut X.env.locals s.heap h') : Inv X pins (σ.set j none) H { s with heap := h', toks := t' } := by
  have cne := I.cne
  obtain ⟨oL, _, _, hoL, _⟩ := id hn
  refine ⟨I.ok, I.os, I.bare, ⟨fun b o e n hb hx => ?_, fun b o e n hb hx => ?_, I.base.free, fun b o e hx => ?_, I.base.tups, I.base.frzs, I.base.tbls⟩, ⟨_, hn', fun i y v' e1 e2 e3 => ?_⟩, fun y c e => ?_, I.free, I.freeC, fun p hp => ?_, fun b ob e => ?_, by simpa using I.len⟩
  · exact (hs.2 b (Nat.ne_of_lt (Nat.lt_of_lt_of_le (Heap.lt_size e) I.ok.above))).trans (I.base.keep b o e n hb hx)
  · obtain ⟨sl, e1⟩ := I.base.slot b o e n hb hx
    exact ⟨sl, (hs.2 b (Nat.ne_of_lt (Nat.lt_of_lt_of_le (Heap.lt_size e) I.ok.above))).trans e1⟩
  · obtain ⟨o', e1⟩ := I.base.there b o e hx
    exact ⟨o', (hs.2 b (Nat.ne_of_lt (Nat.lt_of_lt_of_le (Heap.lt_size e) I.ok.above))).trans e1⟩
  · by_cases hi : i = j
    · subst hi
      by_cases hlt : i < σ.length
      · rw [List.getElem?_set_self hlt] at e2; cases e2
      · rw [List.getElem?_eq_none (by simpa using hlt)] at e2; cases e2
    · rw [List.getElem?_set_ne (Ne.symm hi)] at e2
      obtain ⟨u', r', q⟩ := hl i y v' e1 e2 e3
      refine ⟨u', r', ?_⟩
      rcases q with ⟨k, e⟩ | ⟨k, c, e, z⟩
      · refine .inl ⟨k, ?_⟩
        have : y ≠ n := fun e => hi (nodup_ix hN e1 (e ▸ hj))
        simp [this, e]
      · exact .inr ⟨k, c, e, z.sameBut hs (cne y c e)⟩
  · obtain ⟨w', z⟩ := I.cell y c e
    exact ⟨w', z.sameBut hs (cne y c e)⟩
  · obtain ⟨e, n, ne, nf, d⟩ := I.pin p hp
    exact ⟨(hs.2 p.1 ne).trans e, n, ne, nf, d⟩
  · refine (I.hok b ob e).stay (fun c w' hc q => (hs.2 c ?_).trans q) (fun _ q => q) fun _ _ q => q
    rintro rfl
    have hfree := I.free
    rcases hc with rfl | hc
    · rw [hfree] at e; cases e
    · rw [hfree] at hc; cases hc
end
/-! ### isinstance of an exception -/
/-- what the fragment must tell of an exception's class -/
def exC (K : PySem.W.Frag) (C : Addr) : Bool := PySem.W.findIn K (.ref C) "__getattribute__" == some (some (.builtin "BaseException.__getattribute__")) && PySem.W.findIn K (.ref C) "__getattr__" == some none && PySem.W.mroIn K C (.type "BaseException") == some true && PySem.W.hasDictIn K C && PySem.W.findIn K (.ref C) "__class__" == some (some (.builtin "object.__class__")) &&
  PySem.W.specialIn K (.builtin "object.__class__") "__get__" == some (some (.builtin "getset_descriptor.__get__")) && PySem.W.takesIn K (.builtin "object.__class__") == some true && PySem.W.mroIn K C (.type "object") == some true
section
open PySem.W PySem.Calls Builtin Builtin.ObjectAttr Builtin.Getset_descriptor
variable {K : PySem.W.Frag} {x C : Addr}
theorem looks_findD {M : Model} {h : Heap} {nm : Str} {a g : Value} (X : K.In h) (ha : PySem.W.findIn K (.ref C) nm = some (some a)) (hg : PySem.W.specialIn K a "__get__" = some (some g)) (ht : PySem.W.takesIn K a = some true) :
    Looks M h (find (.ref x) (.ref C) nm) (.bind g a) := by
  have l1 := PySem.W.looks_findIn (M := M) X ha
  have l2 : Looks M h (getOf (some a)) (some g) := PySem.W.looks_specialIn X hg
  have l3 := PySem.W.looks_takesIn (M := M) X ht
  exact l1.andThen (l2.andThen ((show Looks M h (dataDescriptor? (some a) (some g)) (some (g, a)) from l3.andThen .now).andThen (Looks.tag .now)))
theorem isOf_ty {M : Model} {h : Heap} (p : isOf x (.ref C) h) : Looks M h (typeOf (.ref x)) (.ref C) := by
  obtain ⟨o, h1, h2⟩ := p
  exact h2 ▸ (Looks.ld h1).andThen .now
section
open PySem.W
variable {prog : Program} {w : World} {A : Around} {E : Value → Shared → Prop} {s : Shared}
theorem xc_get {tp : Value} {R : Result → Shared → Prop} (X : K.In s.heap) (p : isOf x (.ref C) s.heap) (hm : mroIn K C (.type "object") = some true) (h : R (.ok (.ret (.ref C))) s) :
    codeAny (model prog w) A (.call (.builtin "getset_descriptor.__get__") ⟨[.builtin "object.__class__", .ref x, tp], []⟩) R s := by
  obtain ⟨hh, g, dr, t, os⟩ := s
  have L0 := isOf_ty (M := model prog w) p
  have L1 := looks_mroIn (M := model prog w) X hm
  refine codeAny_call_builtin KF.slot_gs.plain KF.entry_gs (KF.slot_gs.check _ _ _ _ _ _ _ _ KF.type_class (KF.args_gs _ _ _) ?_)
  unfold Builtin.«getset_descriptor.__get__» descrGet
  rw [dga_obj]
  refine wpAny_bind (wpAny_pure ?_)
  unfold descrGetter descrCheckInstance descrNameAndClass isInstance
  simp only [KF.owner_class]
  repeat lk
  refine ⟨Code.quiet_builtin _ (by decide +kernel), codeAny_builtin KF.entry_class ?_⟩
  unfold Builtin.«object.__class__» shownTypeOf
  repeat lk
  exact h
theorem xc_call {tk : Tok} {R : Result → Shared → Prop} (X : K.In s.heap) (p : isOf x (.ref C) s.heap) (hb : mroIn K C (.type "BaseException") = some true)
    (ha : findIn K (.ref C) "__class__" = some (some (.builtin "object.__class__"))) (hn : specialIn K (.builtin "object.__class__") "__get__" = some (some (.builtin "getset_descriptor.__get__"))) (ht : takesIn K (.builtin "object.__class__") = some true) (hm : mroIn K C (.type "object") = some true)
    (h : R (.ok (.ret (.ref C))) s) : codeAny (model prog w) A (.call (.builtin "BaseException.__getattribute__") ⟨[.ref x, .str "__class__" tk], []⟩) R s := by
  obtain ⟨hh, g, d, t, os⟩ := s
  have L0 := isOf_ty (M := model prog w) p
  have LB := looks_mroIn (M := model prog w) X hb
  have LF : Looks (model prog w) hh (find (.ref x) (.ref C) "__class__") (.bind (.builtin "getset_descriptor.__get__") (.builtin "object.__class__")) := looks_findD X ha hn ht
  have hk : builtinKind "BaseException.__getattribute__" = some .slot := by decide +kernel
  have hsp : splitId "BaseException.__getattribute__" = some ("BaseException", "__getattribute__") := by decide +kernel
  have har := F.args_bexc_ga (.ref x) (.str "__class__" tk)
  refine codeAny_call_builtin PySem.F.excAttr_ValueError.ga.plain F.entry_bexc_ga ?_
  simp only [checkBuiltinCall, hk, hsp]
  refine wpAny_bind ?_
  unfold isInstance
  repeat lk
  refine (show wpAny _ _ (PySem.run (.call (.builtin "getset_descriptor.__get__") ⟨[.builtin "object.__class__", .ref x, .ref C], []⟩)) _ _ _ from wpAny_run (xc_get (s := ⟨hh, g, d, t, os⟩) X p hm ?_))
  exact wpAny_pure (wpAny_pure h)
theorem xc_attr {Q : Option Value → Shared → Prop} (X : K.In s.heap) (p : isOf x (.ref C) s.heap) (hga : findIn K (.ref C) "__getattribute__" = some (some (.builtin "BaseException.__getattribute__"))) (hk : findIn K (.ref C) "__getattr__" = some none) (hb : mroIn K C (.type "BaseException") = some true)
    (ha : findIn K (.ref C) "__class__" = some (some (.builtin "object.__class__"))) (hn : specialIn K (.builtin "object.__class__") "__get__" = some (some (.builtin "getset_descriptor.__get__"))) (ht : takesIn K (.builtin "object.__class__") = some true) (hm : mroIn K C (.type "object") = some true)
    (q : Q (some (.ref C)) { s with toks := s.toks + 1 }) : wpAny (model prog w) A (getAttr? (.ref x) "__class__") Q E s := by
  obtain ⟨hh, g, d, t, os⟩ := s
  have L0 := isOf_ty (M := model prog w) p
  have L1 := looks_findIn (M := model prog w) X hga
  have L2 := looks_findIn (M := model prog w) X hk
  have fb := PySem.F.excAttr_ValueError.ga.bind (.ref x)
  unfold getAttr? getAttrBy? getAttrBy
  refine wpAny_bind (wpAny_mkText (wpAny_bind (wpAny_attempt (wpAny_holding (wpAny_bind (L0.at (wpAny_bind (L1.at ?_))))))))
  show wpAny _ _ (getAttrByItsOwn (.ref x) _ (.ref C) (.builtin "BaseException.__getattribute__") false false) _ _ _
  unfold getAttrByItsOwn
  refine wpAny_bind (m := hookBefore (.ref C)) (L2.at ?_)
  refine wpAny_bind (wpAny_attempt (wpAny_holding (wpAny_bind (wpAny_of_eq fb (wpAny_call (xc_call (s := ⟨hh, g, d, t + 1, os⟩) X p hb ha hn ht hm ?_))))))
  exact handed_on rfl (wpAny_pure q)
theorem kitx_exc (hx : exC K C = true) : KitX K (.ref x) (.ref C) (isOf x (.ref C)) := by
  unfold exC at hx
  simp only [Bool.and_eq_true, beq_iff_eq] at hx
  obtain ⟨⟨⟨⟨⟨⟨⟨hga, hk⟩, hb⟩, hdct⟩, ha⟩, hn⟩, ht⟩, hm⟩ := hx
  obtain ⟨cdD, hcD, _⟩ := any_some hdct
  unfold clsIn at hcD
  split at hcD
  · rename_i c' d' cd' sl' ho
    refine ⟨fun M h _ p => isOf_ty p, fun M h X _ A' Q' E' s' k q => ?_, fun h tp dd its n sl X htp => Bool.eq_false_iff.mpr fun q => ?_, fun X p k => xc_attr X p hga hk hb ha hn ht hm k⟩
    · unfold isType loadHead
      exact wpAny_bind (wpAny_loadPart (k _ _ (X _ _ ho)) (wpAny_pure q))
    · have e : C = tp := Value.ref.inj (beq_iff_eq.mp q)
      subst e
      have z := (X _ _ ho).symm.trans htp
      cases z
  · cases hcD
end
end
/-- a class as isinstance takes it -/
inductive IsCls : V → Value → Prop where
  | ref (a : Addr) : IsCls (.ref a) (.ref a)
  | ty (n : String) : IsCls (.ty n) (.type n)
section
variable {X : Cx}
theorem pe_cls {n : Str} {C : Addr} {pos : Pos} (hm : X.mg n = some (.ref C)) (hg : Gl X n := by rfl) (hd : (n == ("__debug__" : Str)) = false := by decide) : PE X (.Name n pos) (tC (.ref C)) :=
  fun pins s σ H Q I h => ld_glob I hg hm ⟨.ref C, H, I, rfl, h⟩ hd
end
end L2

set_option linter.all false
set_option maxRecDepth 100000
set_option maxHeartbeats 4000000
namespace L2
open PySem PySem.Spec PyProof.Rows
/-! ### dict(a list of pairs), the keys tuples -/
end L2

set_option linter.all false
set_option maxRecDepth 100000
set_option maxHeartbeats 4000000
namespace L2
open PySem PySem.Spec PyProof.Rows
end L2

set_option linter.all false
set_option maxRecDepth 100000
set_option maxHeartbeats 4000000
namespace L2
open PySem PySem.Spec PyProof.Rows
end L2

set_option linter.all false
set_option maxRecDepth 100000
set_option maxHeartbeats 4000000
namespace L2
open PySem PySem.Spec PyProof.Rows
/-! ### the keys walked -/
end L2

set_option linter.all false
set_option maxRecDepth 100000
set_option maxHeartbeats 4000000
namespace L2
open PySem PySem.Spec PyProof.Rows
end L2

set_option linter.all false
set_option maxRecDepth 100000
set_option maxHeartbeats 4000000
namespace L2
open PySem PySem.Spec PyProof.Rows
end L2

set_option linter.all false
set_option maxRecDepth 100000
set_option maxHeartbeats 4000000
namespace L2
open PySem PySem.Spec PyProof.Rows
end L2

set_option linter.all false
set_option maxRecDepth 100000
set_option maxHeartbeats 4000000
namespace L2
open PySem PySem.Spec PyProof.Rows PySem.W
end L2

set_option linter.all false
set_option maxRecDepth 100000
set_option maxHeartbeats 4000000
namespace L2
open PySem PySem.Spec PyProof.Rows
end L2

set_option linter.all false
set_option maxRecDepth 100000
set_option maxHeartbeats 4000000
namespace L2
open PySem PySem.Spec PyProof.Rows
theorem TupsT.lstUpd {H : Hp} {r : Addr} {zs ws : List V} {vs : List V} {nss : List (List Int)} (h : TupsT H vs nss) (e : H r = some (.lst zs)) : TupsT (upd H r (.lst ws)) vs nss := h.mono fun v ns x => by
  obtain ⟨a, rfl, ha⟩ := x
  refine ⟨a, rfl, ?_⟩
  rw [upd_ne (fun z => by subst z; rw [e] at ha; cases ha)]
  exact ha
theorem same_updNew {H H' : Hp} {r : Addr} {o : HO} (s : Same H H') (h : H r = none) : Same H (L2.upd H' r o) := fun b u e => by
  rw [upd_ne (ne_of_none e h)]
  exact s b u e
theorem TupsT.drop {H : Hp} : ∀ {vs : List V} {nss : List (List Int)} (k : Nat), TupsT H vs nss → TupsT H (vs.drop k) (nss.drop k)
  | _, _, 0, h => h
  | _, _, _ + 1, .nil => .nil
  | _, _, k + 1, .cons _ t => TupsT.drop k t
theorem TupsT.app {H : Hp} : ∀ {vs ws : List V} {nss mss : List (List Int)}, TupsT H vs nss → TupsT H ws mss → TupsT H (vs ++ ws) (nss ++ mss)
  | _, _, _, _, .nil, g => g
  | _, _, _, _, .cons r t, g => .cons r (TupsT.app t g)
section
variable {σ : St} {H : Hp} {D : Ends} {rest : TS} {te to : TE} {l : Addr} {xs : List V} {K : PySem.W.Frag}
theorem st_app {R : V → Hp → Prop} (ho : Pu to σ H (.ref l)) (hl : H l = some (.lst xs)) (he : Gv te σ H R) (q : ∀ v H', R v H' → ∃ ys, H' l = some (.lst ys) ∧ ys.length < sizeLine ∧ rest D σ (upd H' l (.lst (ys ++ [v])))) :
    tSeq (tDrop (tBM K "list" rAppend to (tCons te tNil))) rest D σ H := st_app1 (D := { D with nx := rest D }) ho hl he q
end
end L2

set_option linter.all false
set_option maxRecDepth 100000
set_option maxHeartbeats 4000000
namespace L2
open PySem PySem.Spec PyProof.Rows
end L2

set_option linter.all false
set_option maxRecDepth 100000
set_option maxHeartbeats 4000000
namespace L2
open PySem PySem.Spec PyProof.Rows
theorem TupsT.take {H : Hp} : ∀ {vs : List V} {nss : List (List Int)} (k : Nat), TupsT H vs nss → TupsT H (vs.take k) (nss.take k)
  | _, _, 0, _ => .nil
  | _, _, _ + 1, .nil => .nil
  | _, _, k + 1, .cons r t => .cons r (TupsT.take k t)
end L2

set_option linter.all false
set_option maxRecDepth 100000
set_option maxHeartbeats 4000000
namespace L2
open PySem PySem.Spec PyProof.Rows
end L2

set_option linter.all false
set_option maxRecDepth 100000
set_option maxHeartbeats 4000000
namespace L2
open PySem PySem.Spec PyProof.Rows
/-- what is known of laid things stays, whatever list else is changed -/
structure Stays (R : Hp → Nat → Addr → Prop) : Prop where
  same : ∀ {H1 H2 : Hp} {i : Nat} {p : Addr}, R H1 i p → Same H1 H2 → R H2 i p
  but : ∀ {H1 H2 : Hp} {i : Nat} {p D : Addr} {ys : List V}, R H1 i p → p ≠ D → H1 D = some (.lst ys) → SameB D H1 H2 → R H2 i p
  here : ∀ {H1 : Hp} {i : Nat} {p : Addr}, R H1 i p → H1 p ≠ none
section
variable {σ : St} {H : Hp} {te tl : TE} {fr : St → St} {k : Nat} {K : PySem.W.Frag} {R : Hp → Nat → Addr → Prop}
/-- what such a list of laid things is -/
def Laid (R : Hp → Nat → Addr → Prop) (H : Hp) (n : Nat) (v : V) (H' : Hp) : Prop := Same H H' ∧ ∃ (D : Addr) (ps : List Addr), v = .ref D ∧ H D = none ∧ H' D = some (.lst (ps.map V.ref)) ∧ ps.length = n ∧ (∀ i p, ps[i]? = some p → R H' i p ∧ p ≠ D ∧ H p = none)
theorem laid_step (S : Stays R) {H2 H3 H4 : Hp} {D p : Addr} {ps : List Addr} {i : Nat} (hD : H D = none) (s2 : Same H H2) (hD2 : H2 D = some (.lst (ps.map V.ref))) (hl : ps.length = i) (hp : ∀ i p, ps[i]? = some p → R H2 i p ∧ p ≠ D ∧ H p = none) (s3 : Same H2 H3) (s4 : Same H3 H4) (np : H3 p = none) (r : R H4 i p) :
    H4 D = some (.lst (ps.map V.ref)) ∧ Same H (upd H4 D (.lst ((ps ++ [p]).map V.ref))) ∧ (∀ i q, (ps ++ [p])[i]? = some q → R (upd H4 D (.lst ((ps ++ [p]).map V.ref))) i q ∧ q ≠ D ∧ H q = none) := by
  have d3 := s3 _ _ hD2
  have d4 := s4 _ _ d3
  have pD : p ≠ D := fun e => by subst e; rw [d3] at np; cases np
  have hpn : H p = none := by
    cases e : H p with
    | none => rfl
    | some o => rw [s3 _ _ (s2 _ _ e)] at np; cases np
  refine ⟨d4, same_updNew (s2.trans (s3.trans s4)) hD, fun j q hq => ?_⟩
  by_cases hj : j < ps.length
  · rw [List.getElem?_append_left hj] at hq
    obtain ⟨r1, n1, f1⟩ := hp j q hq
    exact ⟨S.but (S.same r1 (s3.trans s4)) n1 d4 SameB.upd, n1, f1⟩
  · rw [List.getElem?_append_right (by omega)] at hq
    have e : j - ps.length = 0 := by
      rcases Nat.eq_zero_or_pos (j - ps.length) with e | e
      · exact e
      · rw [List.getElem?_eq_none (by simp; omega)] at hq; cases hq
    rw [e] at hq
    have e2 : p = q := by simpa using hq
    subst e2
    have e3 : j = i := by omega
    subst e3
    exact ⟨S.but r pD d4 SameB.upd, pD, hpn⟩
/-- over a list, each turn lays a new thing -/
theorem gv_compLG (S : Stays R) {a : Addr} {xs : List V} (hl : Pu tl σ H (.ref a)) (ha : H a = some (.lst xs)) (hz : xs.length ≤ 1000) (hk : ∀ x, KeepS (fr σ) ((fr σ).set k (some x)))
    (hs : ∀ i x H', xs[i]? = some x → Same H H' → Gv te ((fr σ).set k (some x)) H' (fun v H'' => Same H' H'' ∧ ∃ p, v = .ref p ∧ H' p = none ∧ R H'' i p)) :
    Gv (tComp (iList K tl) fr (gName k) te) σ H (Laid R H xs.length) := by
  intro Q g
  refine hl _ ⟨a, rfl, ⟨xs, SqL.of ha⟩, fun D hD => ?_⟩
  refine ⟨fun i m ys H2 => m = xs.length - i ∧ i ≤ xs.length ∧ Same H H2 ∧ ∃ ps : List Addr, ys = ps.map V.ref ∧ H2 D = some (.lst ys) ∧ ps.length = i ∧ ∀ i p, ps[i]? = some p → R H2 i p ∧ p ≠ D ∧ H p = none, ⟨_, rfl, Nat.zero_le _, Same.upd hD, [], rfl, upd_same, rfl, fun i p h => by simp at h⟩, ?_⟩
  rintro i m ys H2 ⟨rfl, hi, s2, ps, rfl, hD2, hpl, hps⟩
  by_cases hlt : i < xs.length
  · refine .inr ⟨⟨xs, xs[i], SqL.of (s2 _ _ ha), by simp [hlt]⟩, ?_, fun x H3 y => ?_⟩
    · rw [List.length_map]; exact small1000 (by omega)
    obtain ⟨e, y⟩ := y
    subst e
    have ex := y xs (SqL.of (s2 _ _ ha))
    refine ⟨hk x, hs i x _ ex s2 _ fun v H4 ⟨s4, p, e, np, r⟩ => ?_⟩
    subst e
    obtain ⟨d4, s5, h5⟩ := laid_step S hD s2 hD2 hpl hps (fun _ _ z => z) s4 np r
    exact ⟨d4, xs.length - (i + 1), by omega, rfl, hlt, by simpa using s5, ps ++ [p], by simp, upd_same, by simp [hpl], by simpa using h5⟩
  · have e : i = xs.length := by omega
    subst e
    exact .inl ⟨⟨xs, SqL.of (s2 _ _ ha), Nat.le_refl _⟩, g _ _ ⟨s2, D, ps, rfl, hD, hD2, hpl, hps⟩⟩
end
/-! ### rows of points, laid -/
end L2

set_option linter.all false
set_option maxRecDepth 100000
set_option maxHeartbeats 4000000
namespace L2
open PySem PySem.Spec PyProof.Rows
theorem same_none {H H' : Hp} {p : Addr} (s : Same H H') (h : H' p = none) : H p = none := by
  cases e : H p with
  | none => rfl
  | some o => rw [s _ _ e] at h; cases h
end L2

set_option linter.all false
set_option maxRecDepth 100000
set_option maxHeartbeats 4000000
namespace L2
open PySem PySem.Spec PyProof.Rows
section
variable {X : Cx}
/-- a comprehension's reading, whatever is done with its list at the end (a name may take it before the block is left) -/
def CompR (X : Cx) (e : Expr) (scope : Scope) (iter : Expr) (t : TE) : Prop := ∀ (pins : List (Addr × Obj)) (s : Shared) (σ : St) (H : Hp) (Q : VK) (use : Option (Value → Sem Unit)) (Q' : Value → Shared → Prop) (fpos : Pos), Inv X pins σ H s → t σ H Q →
  (∀ D C m s5 H4 r, s5.heap.Ns C m → FpOk X pins H4 C → Inv X pins σ H4 s5 → Q (.ref D) H4 → compPost (model X.prog X.w) X.A X.xe use Q' (.ref D) C (.ok r) s5) →
  wpAny (model X.prog X.w) X.A (comprehension e scope X.env fpos (newList []) false (eval iter X.env) use) Q' X.xe s
theorem cr_lcomp {tg elt iter : Expr} {scope : Scope} {cl : List (Str × Addr)} {pos : Pos} {N' : List Str} {wi : TI} {fr : St → St} {g : TG} {te : TE}
    (hc : X.calm = true) (hi : PI X tg iter wi)
    (hg : ∀ C fp s0 H0, PG (blk X N' scope cl C fp s0 H0) tg g) (he : ∀ C fp s0 H0, PE (blk X N' scope cl C fp s0 H0) elt te)
    (hclos : closureFor scope X.env = pure cl) (hkind : scope.kind = .function) (hnames : ∀ x ∈ scope.names, x.2 = .local → scope.names.lookup x.1 = some .local) (hcell : ∀ y ∈ scope.names, y.2 ≠ .cell)
    (hcl : ∀ y c, cl.lookup y = some c → X.env.cells.lookup y = some c) (hhas : ∀ y, ((relabel scope X.env).names.lookup y = some .cell ∨ (relabel scope X.env).names.lookup y = some .free) → ∃ c, cl.lookup y = some c)
    (hfl : ∀ σ : St, σ.length = X.N.length → (fr σ).length = N'.length)
    (hfr : ∀ (σ : St) (i : Nat) (y : Str) (v : V), N'[i]? = some y → (fr σ)[i]? = some (some v) → ∃ j : Nat, X.N[j]? = some y ∧ σ[j]? = some (some v) ∧ X.env.kindOf y = some .cell ∧ (relabel scope X.env).names.lookup y = some .cell)
    (hs : ∀ x, foldedSetIterable iter X.env x = pure x := by intro _; rfl) :
    CompR X (.ListComp elt [⟨tg, iter, [], 0⟩] scope pos) scope iter (tComp wi fr g te) := by
  intro pins s σ H Q use Q' fpos I h fin
  refine wpAny_comprehension_free (use := use) rfl hs hclos hkind hnames ?_
  refine thn (hi pins s σ H _ I h) fun v s1 h1 => thn h1 fun itv s2 h2 => ?_
  obtain ⟨it, fp, tn, J, H2, rfl, I2, T, st2, f2, q2⟩ := h2
  have D0 : H2 s2.heap.objs.size = none := I2.hok.fresh (Nat.le_refl _)
  obtain ⟨W, ⟨m0, w0⟩, turn⟩ := q2 _ D0
  refine wpAny_newObj_type (wpAny_newFunctionEnv hcell (by intro y hy; simp at hy) (fun h₁ hns₁ hsb₁ => ?_) hkind)
  dsimp only at hns₁ hsb₁ ⊢
  have I3 : Inv X pins σ (upd H2 s2.heap.objs.size (.lst [])) { s2 with heap := s2.heap.push { cls := .type "list", dict := none, data := .seq ([] : List Value).toArray } } :=
    I2.laid (t' := s2.toks) (fun b u e => Heap.get?_push_of_some _ e) (Nat.le_refl _) ⟨Nat.zero_le _, [], _, .nil, Heap.get?_push_size _ rfl⟩
  generalize hH3 : upd H2 s2.heap.objs.size (.lst []) = H3 at I3 w0
  generalize hs3 : ({ s2 with heap := s2.heap.push { cls := .type "list", dict := none, data := .seq ([] : List Value).toArray } } : Shared) = s3 at I3
  have eh : s3.heap = s2.heap.push { cls := .type "list", dict := none, data := .seq ([] : List Value).toArray } := by rw [← hs3]
  have fl : ∀ b ∈ fp, b < s2.heap.objs.size := fun b hb => by
    obtain ⟨o, e, _⟩ := T.obj 0 _ st2 b hb
    exact Heap.lt_size e
  have fn : ∀ b ∈ fp, H3 b = none := fun b hb => by
    rw [← hH3, upd_ne (Nat.ne_of_lt (fl b hb))]; exact (f2 b hb).1
  have f3 : ∀ b ∈ fp, FpOk X pins H3 b := fun b hb => ⟨fn b hb, (f2 b hb).2⟩
  have old : ∀ b u, s3.heap.get? b = some u → h₁.get? b = some u := fun b u e => by
    refine hsb₁.extBut b u ?_ (Heap.get?_push_of_some _ (by rw [← eh]; exact e))
    have := Heap.lt_size e
    rw [eh] at this
    exact Nat.ne_of_lt this
  have up : ∀ b u, s2.heap.get? b = some u → s3.heap.get? b = some u := fun b u e => by rw [eh]; exact Heap.get?_push_of_some _ e
  have ok := blk_ok (N' := N') (scope := scope) (cl := cl) (fp := fp) I3 hkind hcl hhas f3 fun b hb => by rw [eh, Heap.size_push]; exact Nat.lt_succ_of_lt (fl b hb)
  rw [← eh] at hns₁ ⊢
  have IB : Inv (blk X N' scope cl s3.heap.objs.size fp s3 H3) [] (fr σ) H3 { s3 with heap := h₁, toks := s2.toks + ([] : List (Str × Value)).length } := by
    refine ⟨ok, rfl, I3.bare, Un.kept old, ⟨_, hns₁, fun i y v e1 e2 e3 => ?_⟩, fun x c e => ?_, I3.hok.fresh (Nat.le_refl _), fun x c e => I3.freeC x c (hcl x c e), fun p hp => by simp [blk] at hp, I3.hok.kept old, hfl σ I3.len⟩
    · obtain ⟨j, n1, n2, n3, n4⟩ := hfr σ i y v e1 e2
      obtain ⟨m, _, hl⟩ := I3.loc
      obtain ⟨u, r, l⟩ := hl j y v n1 n2 (.inr (.inl n3))
      refine ⟨u, r, .inr ⟨.inl n4, ?_⟩⟩
      rcases l with ⟨k, _⟩ | ⟨_, c, e, ic⟩
      · rw [n3] at k; cases k
      · obtain ⟨c', e'⟩ := hhas y (.inl n4)
        have e'' := hcl y c' e'
        rw [e] at e''; cases e''
        obtain ⟨o, ho, hd⟩ := ic
        exact ⟨c, e', o, old c o ho, hd⟩
    · obtain ⟨v, o, ho, hd⟩ := I3.cell x c (hcl x c e)
      exact ⟨v, o, old c o ho, hd⟩
  have stB : tn 0 h₁ := T.keep _ _ _ st2 fun b hb o e => old b o (up b o e)
  have D2 : s2.heap.objs.size < s3.heap.objs.size := by rw [eh, Heap.size_push]; exact Nat.lt_succ_self _
  have stat : ∀ {H' : Hp}, (∀ b ∈ fp, H' b = none) → ∀ b ∈ fp, FpOk (blk X N' scope cl s3.heap.objs.size fp s3 H3) [] H' b := fun hn b hb =>
    ⟨hn b hb, Nat.ne_of_lt (Nat.lt_trans (fl b hb) D2), ok.exfs b hb, .inl hb, fun x c e => (ok.exf b hb).2 x c e, fun p hp => by simp [blk] at hp⟩
  have loop : codeAny (model X.prog X.w) X.A (.compLoop (.ListComp elt [⟨tg, iter, [], 0⟩] scope pos) 0 (.ref it) (.ref s2.heap.objs.size) (compEnvC scope cl s3.heap.objs.size X.env))
      (compPost (model X.prog X.w) X.A X.xe use Q' (.ref s2.heap.objs.size) s3.heap.objs.size) { s3 with heap := h₁, toks := s2.toks + ([] : List (Str × Value)).length } := by
    refine codeAny_loop rfl (fun n s' => ∃ i ys H', Inv (blk X N' scope cl s3.heap.objs.size fp s3 H3) [] (fr σ) H' s' ∧ tn i s'.heap ∧ (∀ b ∈ fp, H' b = none) ∧ W i n ys H') ?_ m0 ⟨0, [], H3, IB, stB, fn, w0⟩
    rintro n s4 ⟨i, ys, H4, I4, st4, fr4, w4⟩
    show wpAny _ _ ((compTurn (.ListComp elt [⟨tg, iter, [], 0⟩] scope pos) 0 (.ref it) (.ref s2.heap.objs.size) (compEnvC scope cl s3.heap.objs.size X.env)).onRaise (fun x => do noteFrame x (compEnvC scope cl s3.heap.objs.size X.env); theTreesLotGoes x)) _ _ s4
    refine wpAny_noted ?_
    rw [compTurn_list1]
    refine wpAny_bind (wpAny_standAt (wpAny_bind ?_))
    rcases turn i n ys H4 w4 with ⟨stop, qn⟩ | ⟨go, hz, step⟩
    · refine thn (T.done (blk X N' scope cl s3.heap.objs.size fp s3 H3) rfl rfl rfl hc i [] s4 (fr σ) H4 _ I4 (stat fr4) st4 stop) fun r s5 ⟨hr, I5⟩ => ?_
      subst hr
      refine wpAny_pure ?_
      obtain ⟨m, hn, _⟩ := I5.loc
      have hlt : ∀ b u, s3.heap.get? b = some u → b ≠ s3.heap.objs.size := fun b u e => Nat.ne_of_lt (Heap.lt_size e)
      have B := I5.base
      refine fin _ _ m s5 H4 _ hn (I3.fpOk (Nat.le_refl _) I5.free) ?_ qn
      refine I3.call' (s' := s5) (ch := fp) I5.os ⟨fun b o e n1 n2 n3 => B.keep b o e n1 n2 n3, fun b o e n1 n2 n3 => B.slot b o e n1 n2 n3, B.free, fun b o e n1 => B.there b o e n1, B.tups, B.frzs, B.tbls⟩ (fun a o e => I5.hok a o e) I5.bare (fun b hb' => ?_)
      exact ⟨(f2 b hb').2.2.2.1, (f2 b hb').2.1, (f2 b hb').2.2.2.2.1, (f2 b hb').2.2.2.2.2⟩
    · refine thn (T.item (blk X N' scope cl s3.heap.objs.size fp s3 H3) rfl rfl rfl hc i [] s4 (fr σ) H4 _ I4 (stat fr4) st4 go) fun r s5 ⟨u, hr, h5⟩ => ?_
      subst hr
      refine wpAny_bind (thn h5 fun _ s6 ⟨x, H6, I6, r6, y6, st6, fr6⟩ => ?_)
      have I6' := I6.pinned (stat fr6) (T.obj _ _ st6)
      refine wpAny_bind (wpAny_mono (hg s3.heap.objs.size fp s3 H3 _ s6 (fr σ) H6 x u _ I6' r6 (step x H6 y6)) (fun _ s7 ⟨σ7, H7, I7, kp, q7⟩ => ?_) fun _ _ z => z.elim)
      refine wpAny_bind (wpAny_bind (wpAny_mono (he s3.heap.objs.size fp s3 H3 _ s7 σ7 H7 _ I7 q7) (fun v8 s8 ⟨y8, H8, I8, r8, hD, m', hm, w8⟩ => ?_) fun _ _ z => z.elim))
      have ap := mt_append (X := blk X N' scope cl s3.heap.objs.size fp s3 H3) _ s8 σ7 H8 (.ref s2.heap.objs.size) [y8] (.ref s2.heap.objs.size) [v8] (fun _ H9 => W (i + 1) m' (ys ++ [y8]) H9) I8 rfl (.cons r8 .nil) ⟨_, ys, y8, rfl, rfl, hD, hz, w8⟩
      refine wpAny_bind (wpAny_mono ap (fun _ s9 ⟨_, H9, I9, _, w9⟩ => wpAny_pure (wpAny_pure ⟨rfl, m', hm, i + 1, ys ++ [y8], H9, ?_, ?_, ?_, w9⟩)) fun _ _ z => z.elim)
      · exact I9.unpinned.weak (by rw [kp.1]) kp.2
      · exact T.keep _ _ _ st6 fun b hb o e => (I9.pin (b, o) (List.mem_append_right _ (List.mem_append_right _ (mem_pinsAt hb e)))).1
      · intro b hb
        obtain ⟨o, e, d⟩ := T.obj _ _ st6 b hb
        exact (I9.pin (b, o) (List.mem_append_right _ (List.mem_append_right _ (mem_pinsAt hb e)))).2.1
  subst hs3
  exact codeAny_compStart_list loop (T.self X.A 0 _ _ _ stB loop)
/-- a name takes a comprehension's list -/
theorem ps_setC {i : Nat} {y : Str} {py spos : Pos} {elt iter tg : Expr} {scope : Scope} {pos : Pos} {t : TE} (hN : X.N.Nodup) (hi : X.N[i]? = some y) (hx : X.env.scope.names.lookup y = some .local) (h : CompR X (.ListComp elt [⟨tg, iter, [], 0⟩] scope pos) scope iter t)
    (hsw : swapsWith (.ListComp elt [⟨tg, iter, [], 0⟩] scope pos) (some (.Name y py)) spos.line X.env = pure true := by rfl) : PS X (.Assign [.Name y py] (.ListComp elt [⟨tg, iter, [], 0⟩] scope pos) spos) (tAsg t (gName i)) := by
  intro pins s σ H D I hw
  rw [exec_Assign_Name_used _ _ _ _ hsw]
  refine wpAny_bind (wpAny_standAt (wpAny_bind ?_))
  show wpAny _ _ (do let _ ← comprehension (.ListComp elt [⟨tg, iter, [], 0⟩] scope pos) scope X.env _ (newList []) false (eval iter X.env) (some (assign (.Name y py) X.env))) _ _ _
  refine wpAny_bind (wpAny_mono (h pins { s with } σ H _ (some (assign (.Name y py) X.env)) (fun _ s' => SP X pins D .next s') _ I hw fun D' C m s5 H4 r hn f I5 q => ?_) (fun _ s' hq => wpAny_pure (wpAny_pure hq)) fun _ _ e => e)
  refine wpAny_assign_Name (store_ok2 I5 hN hi (Or.inl hx) (v := .ref D') rfl (fun s6 I6 ⟨a, sb, ha⟩ => ?_) (.inr hx))
  have na : C ≠ a := by
    rcases ha with e | e
    · rw [e]; exact f.2.1
    · exact Ne.symm (f.2.2.2.2.1 y a e)
  refine ⟨m, hn.sameBut sb na, fun h' sb' => ⟨_, H4, ?_, q⟩⟩
  exact I6.turned (t' := s6.toks) (fun b o hb e => sb'.extBut b o hb e) f.1 f.2.1 f.2.2.2.1 f.2.2.2.2.1 f.2.2.2.2.2
end
end L2

set_option linter.all false
set_option maxRecDepth 100000
set_option maxHeartbeats 4000000
namespace L2
open PySem PySem.Spec PyProof.Rows
end L2

set_option linter.all false
set_option maxRecDepth 100000
set_option maxHeartbeats 4000000
namespace L2
open PySem PySem.Spec PyProof.Rows
theorem Same.rfl' {H : Hp} : Same H H := fun _ _ e => e
end L2

set_option linter.all false
set_option maxRecDepth 100000
set_option maxHeartbeats 4000000
namespace L2
open PySem PySem.Spec PyProof.Rows
/-! ### {} -/
/-! ### try: f(..) except C as n: .., with return -/
/-! ### isinstance of an exception with a tuple of classes -/
end L2

set_option linter.all false
set_option maxRecDepth 100000
set_option maxHeartbeats 4000000
namespace L2
open PySem PySem.Spec PyProof.Rows
section
variable {es : List Expr} {env : Env}
theorem star_tup {a b c} : starEach (.Tuple a b c :: es) env = (false, eval (.Tuple a b c) env) :: starEach es env := rfl
theorem star_lst {a b} : starEach (.List a b :: es) env = (false, eval (.List a b) env) :: starEach es env := rfl
theorem star_con {a b c} : starEach (.Constant a b c :: es) env = (false, eval (.Constant a b c) env) :: starEach es env := rfl
theorem star_un {a b c} : starEach (.UnaryOp a b c :: es) env = (false, eval (.UnaryOp a b c) env) :: starEach es env := rfl
theorem star_bin {a b c d} : starEach (.BinOp a b c d :: es) env = (false, eval (.BinOp a b c d) env) :: starEach es env := rfl
theorem star_name {a b} : starEach (.Name a b :: es) env = (false, eval (.Name a b) env) :: starEach es env := rfl
theorem star_call {a b c d} : starEach (.Call a b c d :: es) env = (false, eval (.Call a b c d) env) :: starEach es env := rfl
theorem star_sub {a b c} : starEach (.Subscript a b c :: es) env = (false, eval (.Subscript a b c) env) :: starEach es env := rfl
theorem star_attr {a b c} : starEach (.Attribute a b c :: es) env = (false, eval (.Attribute a b c) env) :: starEach es env := rfl
theorem star_lc {a b c d} : starEach (.ListComp a b c d :: es) env = (false, eval (.ListComp a b c d) env) :: starEach es env := rfl
end
end L2

set_option linter.all false
set_option maxHeartbeats 4000000
namespace L2
/-! ### rounds -/

/-! ### sums round a ring -/
end L2

set_option linter.all false
set_option maxRecDepth 100000
set_option maxHeartbeats 4000000
namespace L2
open PySem PySem.Spec PyProof.Rows

/-! ### sides, laid -/
end L2

set_option linter.all false
set_option maxRecDepth 100000
set_option maxHeartbeats 4000000
namespace L2
open PySem PySem.Spec PyProof.Rows
end L2

set_option linter.all false
set_option maxRecDepth 100000
set_option maxHeartbeats 4000000
namespace L2
open PySem PySem.Spec PyProof.Rows
/-! ### plain data, laid -/
mutual
inductive Dat (K : PySem.W.Frag) (H : Hp) : Nat → V → PyData → Prop
  | int {k : Nat} (n : Int) : Dat K H k (.int n) (.int n)
  | tup {k : Nat} {a : Addr} {vs : List V} {ds : List PyData} : SqT K H a vs → Dats K H k vs ds → Dat K H (k + 1) (.ref a) (.tuple ds)
  | lst {k : Nat} {a : Addr} {vs : List V} {ds : List PyData} : SqL K H a vs → Dats K H k vs ds → Dat K H (k + 1) (.ref a) (.list ds)
inductive Dats (K : PySem.W.Frag) (H : Hp) : Nat → List V → List PyData → Prop
  | nil {k : Nat} : Dats K H k [] []
  | cons {k : Nat} {v : V} {vs : List V} {d : PyData} {ds : List PyData} : Dat K H k v d → Dats K H k vs ds → Dats K H k (v :: vs) (d :: ds)
end
section
open PySem.SeqAt PyProof.V
variable {K : PySem.W.Frag} {H : Hp}
mutual
theorem Dat.can : ∀ {k : Nat} {v : V} {d : PyData}, Dat K H k v d → d.canLay0 = true ∧ d.depth ≤ k ∧ noMix d d = true
  | _, _, _, .int n => by simp [PyData.canLay0, PyData.depth, noMix]
  | _, _, _, .tup h t => by
    have := Dats.can t
    simp only [PyData.canLay0, PyData.depth, noMix]
    exact ⟨this.1, by omega, this.2.2⟩
  | _, _, _, .lst h t => by
    have := Dats.can t
    simp only [PyData.canLay0, PyData.depth, noMix]
    exact ⟨this.1, by omega, this.2.2⟩
theorem Dats.can : ∀ {k : Nat} {vs : List V} {ds : List PyData}, Dats K H k vs ds → PyData.canLayAll0 ds = true ∧ PyData.depthAll ds ≤ k ∧ noMixAll ds ds = true
  | _, _, _, .nil => by simp [PyData.canLayAll0, PyData.depthAll, noMixAll]
  | _, _, _, .cons h t => by
    have h1 := Dat.can h
    have h2 := Dats.can t
    simp only [PyData.canLayAll0, PyData.depthAll, noMixAll, Bool.and_eq_true]
    exact ⟨⟨h1.1, h2.1⟩, by omega, h1.2.2, h2.2.2⟩
end
theorem Dat.shaped {k : Nat} {v : V} {d : PyData} (h : Dat K H k v d) (hk : k ≤ 64) : PySem.SeqAt.shaped d = true := by
  have := h.can
  show (PyData.canLay0 d && decide (PyData.depth d ≤ 64)) = true
  rw [Bool.and_eq_true]
  exact ⟨this.1, decide_eq_true (by omega)⟩
end
section
open PySem.SeqAt PyProof.V
variable {X : Cx} {pins : List (Addr × Obj)} {σ : St} {H : Hp} {s : Shared}
mutual
theorem Inv.dat {K : PySem.W.Frag} (hK : X.K = K) (I : Inv X pins σ H s) : ∀ {k : Nat} {v : V} {d : PyData}, Dat K H k v d → ∀ u, RelV v u → ∃ as, Reads s.heap u d as
  | _, _, _, .int n, _, r => by
    obtain ⟨t, rfl⟩ := (show ∃ t, _ = Value.int n t from r)
    exact ⟨_, Reads.int n t⟩
  | _, _, _, .tup h t, _, r => by
    cases r
    obtain ⟨its, rv, p, _⟩ := I.tuple (hK ▸ h)
    obtain ⟨o, ho, hc, n, hd⟩ := p
    obtain ⟨as, ra⟩ := Inv.dats hK I t _ rv
    exact ⟨_, Reads.tuple ho hc hd (by simpa using ra)⟩
  | _, _, _, .lst h t, _, r => by
    cases r
    obtain ⟨its, rv, pl, _⟩ := I.list (hK ▸ h)
    obtain ⟨o, ho, hc, n, hd⟩ := pl.isList
    obtain ⟨as, ra⟩ := Inv.dats hK I t _ rv
    exact ⟨_, Reads.list ho hc hd (by simpa using ra)⟩
theorem Inv.dats {K : PySem.W.Frag} (hK : X.K = K) (I : Inv X pins σ H s) : ∀ {k : Nat} {vs : List V} {ds : List PyData}, Dats K H k vs ds → ∀ us, Vals vs us → ∃ as, ReadsAll s.heap us ds as
  | _, _, _, .nil, _, .nil => ⟨_, .nil⟩
  | _, _, _, .cons p q, _, .cons r t => by
    obtain ⟨as, h1⟩ := Inv.dat hK I p _ r
    obtain ⟨bs, h2⟩ := Inv.dats hK I q _ t
    exact ⟨_, .cons h1 h2⟩
end
/-- == and != of the same data -/
def rEqS (K : PySem.W.Frag) (neg : Bool) : R2 := fun x y H Q => ∃ d, Dat K H 8 x d ∧ Dat K H 8 y d ∧ Q (.bl (!neg)) H
theorem op_neS (hu : X.A.units + 64 < cLine) : OpR X (compareOp .NotEq) (rEqS X.K true) := by
  intro pins s σ H x y v u Q I rx ry h
  obtain ⟨d, h1, h2, q⟩ := h
  obtain ⟨as, r1⟩ := I.dat rfl h1 _ rx
  obtain ⟨bs, r2⟩ := I.dat rfl h2 _ ry
  refine ne_dataH_same r1 r2 (h1.shaped (by decide)) (h1.shaped (by decide)) hu h1.can.2.2 (fin_bl I q ?_)
  rw [same_self]
  all_goals rfl
end
section
variable {K : PySem.W.Frag} {H : Hp}
theorem dats_ints : ∀ {k : Nat} (ns : List Int), Dats K H k (ns.map V.int) (ns.map PyData.int)
  | _, [] => .nil
  | _, n :: ns => .cons (.int n) (dats_ints ns)
theorem TupT.dat {v : V} {ns : List Int} {k : Nat} (h : TupT H v ns) : Dat K H (k + 1) v (.tuple (ns.map PyData.int)) := by
  obtain ⟨a, rfl, h⟩ := h
  exact .tup (SqT.of h) (dats_ints ns)
theorem TupsT.dats : ∀ {vs : List V} {nss : List (List Int)} {k : Nat}, TupsT H vs nss → Dats K H (k + 1) vs (nss.map fun ns => .tuple (ns.map PyData.int))
  | _, _, _, .nil => .nil
  | _, _, _, .cons h t => .cons h.dat (TupsT.dats t)
theorem pu_neS {σ : St} {ta tb : TE} {x y : V} {d : PyData} (ha : Pu ta σ H x) (hb : Pu tb σ H y) (h1 : Dat K H 8 x d) (h2 : Dat K H 8 y d) : Pu (tOp (rEqS K true) ta tb) σ H (.bl false) := fun _ q => ha _ (hb _ ⟨d, h1, h2, q⟩)
end
/-! ### [::-1] -/
end L2

set_option linter.all false
set_option maxHeartbeats 4000000
namespace L2
/-! ### points that are drawn, one after another -/
end L2

set_option linter.all false
set_option maxRecDepth 100000
set_option maxHeartbeats 4000000
namespace L2
open PySem PySem.Spec PyProof.Rows
section
variable {X : Cx}
theorem call_list_ofK {K : PySem.W.Frag} (h : X.K = K) : CallR X (.type "list") (fun xs H Q => ∃ p ys, xs = [.ref p] ∧ (SqL K H p ys ∨ SqT K H p ys) ∧ ∀ l, H l = none → Q (.ref l) (upd H l (.lst ys))) := by
  subst h; exact call_list_of
end
end L2

set_option linter.all false
set_option maxRecDepth 100000
set_option maxHeartbeats 4000000
namespace L2
open PySem PySem.Spec PyProof.Rows
end L2

set_option linter.all false
set_option maxRecDepth 100000
set_option maxHeartbeats 4000000
namespace L2
open PySem PySem.Spec PyProof.Rows
end L2

set_option linter.all false
set_option maxRecDepth 100000
namespace L2
open PySem PySem.StrLaws PySem.Builtin PySem.Builtin.Str
/-! ### texts: what is joined is split again -/
end L2

set_option linter.all false
set_option maxRecDepth 100000
namespace L2
open PySem PySem.StrLaws PySem.Builtin PySem.Builtin.Str PySem.NumText PyProof.Rows
/-! ### numbers as texts -/
end L2

set_option linter.all false
set_option maxRecDepth 100000
namespace L2
open PySem PySem.Spec PyProof.Rows
/-! texts: methods, slices, f-strings, iteration -/
section
variable {X : Cx}
theorem pe_konI {x : Str} {v : Int} {pos : Pos} (hm : ∃ tk, X.mg x = some (.int v tk)) (hg : Gl X x := by rfl) (hd : (x == ("__debug__" : Str)) = false := by decide) : PE X (.Name x pos) (tC (.int v)) := by
  obtain ⟨tk, hm⟩ := hm
  exact pe_glob hg hm ⟨tk, rfl⟩ hd
end
end L2

set_option linter.all false
set_option maxRecDepth 100000
namespace L2
open PySem PySem.Spec PyProof.Rows
end L2

set_option linter.all false
set_option maxRecDepth 100000
set_option maxHeartbeats 4000000
namespace L2
open PySem PySem.Spec PyProof.Rows
/-! ### a comprehension whose element may raise -/
/-! the heap behind a raise within a comprehension -/
theorem funFrames_get {h h' B : Heap} (k : ∀ b, h'.get? b = h.get? b) : ∀ {l : List Env}, h.FunFrames B l → h'.FunFrames B l
  | [], _ => trivial
  | env :: r, ⟨h1, ⟨L, o, h2, h3, h4, h5⟩, h6⟩ => ⟨h1, ⟨L, o, h2, h3, (k L).trans h4, h5⟩, funFrames_get k h6⟩
theorem held_get {h h' B : Heap} {l : List Env} {e L : Addr} {cls a0 : Value} (k : ∀ b, h'.get? b = h.get? b) (x : Heap.HeldW B l e cls a0 L h) : Heap.HeldW B l e cls a0 L h' := by
  obtain ⟨x1, x2, x3, oe, vs, T, oT, ts, he, hc, hd, h1, hnT, hTe, hT, hdT, h3⟩ := x
  exact ⟨fun b o q => (k b).trans (x1 b o q), x2, funFrames_get k x3, oe, vs, T, oT, ts, (k e).trans he, hc, hd, h1, hnT, hTe, (k T).trans hT, hdT, h3⟩
end L2

set_option linter.all false
set_option maxRecDepth 100000
namespace L2
open PySem PySem.StrLaws PySem.Builtin PySem.Builtin.Str PyProof.Rows
/-! ### fractions, points and their texts -/
/-! ### readings of texts -/
theorem st_list1 {K : PySem.W.Frag} {σ : St} {H : Hp} {D : Ends} {g : TG} {tb : TS} {te : TE} {a : Addr} {xs : List V} (ha : Pu te σ H (.ref a)) (Pv : Nat → St → Hp → Prop) (h0 : Pv 0 σ H) (hl : ∀ i σ H, i ≤ xs.length → Pv i σ H → SqL K H a xs)
    (hs : ∀ (i : Nat) x σ H, xs[i]? = some x → Pv i σ H → g x σ H fun σ2 H2 => tb { D with nx := Pv (i + 1), ct := Pv (i + 1), bk := D.nx } σ2 H2) (hd : ∀ σ H, Pv xs.length σ H → D.nx σ H) : tFor (iList K te) g tb D σ H :=
  ha _ ⟨a, rfl, ⟨xs, hl 0 σ H (Nat.zero_le _) h0⟩, for_list (D := D) Pv h0 hl hs hd⟩
/-! ### reading a number -/
/-! ### numbers too long to be read -/
end L2

set_option linter.all false
set_option maxRecDepth 100000
set_option maxHeartbeats 4000000
namespace L2
open PySem PySem.Spec PyProof.Rows
/-! ### a written dict of the top: words to objects of the top -/
/-! ### zip of two tuples, of the call or of the top -/
end L2

set_option linter.all false
set_option maxRecDepth 100000
set_option maxHeartbeats 4000000
namespace L2
open PySem PySem.Spec PyProof.Rows
/-! ### a loop whose body may raise -/
theorem cameBack_held {M : Model} {A : Around} {E : Value → Shared → Prop} {s : Shared} {B : Heap} {l : List Env} {env : Env} {e L : Addr} {cls a0 : Value} (hf : env.frame = some L) (x : Heap.HeldW B l e cls a0 L s.heap)
    (h : ∀ h', (∀ b, h'.get? b = s.heap.get? b) → E (.ref e) { s with heap := h' }) : cameBackBy M A env E (.ref e) s := by
  obtain ⟨x1, x2, x3, oe, vs, T, oT, ts, he, hc, hd, h1, hnT, hTe, hT, hdT, h3⟩ := x
  unfold cameBackBy
  refine wpAny_bind (wpAny_field he hd h1 ?_)
  show wpAny _ _ (ite ((Value.ref T == Value.none) = true) _ _) _ _ s
  rw [if_neg (c := (Value.ref T == Value.none) = true) (by exact Bool.false_ne_true), hf]
  unfold setFlight
  refine wpAny_bind (wpAny_field he hd h1 ?_)
  show wpAny _ _ (ite ((Value.ref T != Value.none) = true) _ _) _ _ s
  rw [if_pos (c := (Value.ref T != Value.none) = true) rfl]
  have hlt : 3 < ts.size := (Array.getElem?_eq_some_iff.mp h3).1
  refine wpAny_setField hT hdT hlt (h _ fun b => ?_)
  by_cases z : b = T
  · subst z
    rw [hT, Heap.get?_update_self _ hT (Obj.isFreed_of_fields (Obj.data_mapFields hdT _))]
    congr 1
    obtain ⟨c, d, dt, sl⟩ := oT
    simp only at hdT
    subst hdT
    show Obj.mk c d (.fields (ts.setIfInBounds 3 (rawInt L))) sl = Obj.mk c d (.fields ts) sl
    have e : ts.setIfInBounds 3 (rawInt L) = ts := by
      obtain ⟨hlt, hv⟩ := Array.getElem?_eq_some_iff.mp h3
      apply Array.ext
      · simp
      · intro i h1 h2
        by_cases z : 3 = i
        · subst z
          rw [Array.getElem_setIfInBounds_self]
          exact hv.symm
        · rw [Array.getElem_setIfInBounds_ne (by simpa using h1) z]
    rw [e]
  · exact Heap.get?_update_other _ _ (Ne.symm z)
section
variable {P : Program} {w : World} {K : PySem.W.Frag} {mg : Str → Option Value} {base : Heap} {N : List Str} {qual : Str} {scope : Scope} {f : Addr} {cd : Value} {A : Around} {outer : List Env} {s : Shared} {H : Hp} {E : XK}
theorem Lay.up {outer : List Env} {H H1 : Hp} {s : Shared} {ea : Addr} {B h h' : Heap} (L : Lay P w outer H H1 s ea B h) (k : ∀ b o, s.heap.get? b = some o → b ∈ frs outer → ∀ sl, h.get? b = some { o with slots := sl } → ∃ sl', h'.get? b = some { o with slots := sl' }) : Lay P w outer H H1 s ea B h' :=
  ⟨L.hok, L.new, L.keep, fun b o q n hb => by
    obtain ⟨sl, z⟩ := L.slot b o q n hb
    exact k b o q hb sl z, L.there, L.free, L.tups, L.frzs, L.tbls⟩
end
end L2

set_option linter.all false
set_option maxRecDepth 100000
set_option maxHeartbeats 4000000
namespace L2
open PySem PySem.Spec PyProof.Rows
/-! ### things of any kind -/
inductive D where
  | non | bl (b : Bool) | int (n : Int) | str (s : Str) | tup (ds : List D) | lst (ds : List D) | dct
mutual
/-- v is that thing; lists are not hd -/
inductive DAt (hd : Addr) (H : Hp) : V → D → Prop
  | non : DAt hd H .non .non
  | bl (b : Bool) : DAt hd H (.bl b) (.bl b)
  | int (n : Int) : DAt hd H (.int n) (.int n)
  | str (s : Str) (h : (∀ c ∈ s.cps.toList, c < 128) ∧ s.length ≤ 1000) : DAt hd H (.str s) (.str s)
  | tup {a : Addr} {xs : List V} {ds : List D} (h : H a = some (.tup xs)) (t : DsAt hd H xs ds) : DAt hd H (.ref a) (.tup ds)
  | lst {a : Addr} {xs : List V} {ds : List D} (h : H a = some (.lst xs)) (n : a ≠ hd) (t : DsAt hd H xs ds) : DAt hd H (.ref a) (.lst ds)
  | dct {a : Addr} {kvs : List (Key × V)} (h : H a = some (.dK kvs)) : DAt hd H (.ref a) .dct
inductive DsAt (hd : Addr) (H : Hp) : List V → List D → Prop
  | nil : DsAt hd H [] []
  | cons {x : V} {d : D} {xs : List V} {ds : List D} (h : DAt hd H x d) (t : DsAt hd H xs ds) : DsAt hd H (x :: xs) (d :: ds)
end
section
variable {hd : Addr} {H H' : Hp}
mutual
theorem DAt.same (s : Same H H') : ∀ {v : V} {d : D}, DAt hd H v d → DAt hd H' v d
  | _, _, .non => .non
  | _, _, .bl b => .bl b
  | _, _, .int n => .int n
  | _, _, .str x h => .str x h
  | _, _, .tup h t => .tup (s _ _ h) (DsAt.same s t)
  | _, _, .lst h n t => .lst (s _ _ h) n (DsAt.same s t)
  | _, _, .dct h => .dct (s _ _ h)
theorem DsAt.same (s : Same H H') : ∀ {vs : List V} {ds : List D}, DsAt hd H vs ds → DsAt hd H' vs ds
  | _, _, .nil => .nil
  | _, _, .cons h t => .cons (DAt.same s h) (DsAt.same s t)
end
mutual
theorem DAt.but {ys : List V} (hy : H hd = some (.lst ys)) (s : SameB hd H H') : ∀ {v : V} {d : D}, DAt hd H v d → DAt hd H' v d
  | _, _, .non => .non
  | _, _, .bl b => .bl b
  | _, _, .int n => .int n
  | _, _, .str x h => .str x h
  | _, _, .tup h t => .tup (s _ _ h fun e => by rw [e, hy] at h; cases h) (DsAt.but hy s t)
  | _, _, .lst h n t => .lst (s _ _ h n) n (DsAt.but hy s t)
  | _, _, .dct h => .dct (s _ _ h fun e => by rw [e, hy] at h; cases h)
theorem DsAt.but {ys : List V} (hy : H hd = some (.lst ys)) (s : SameB hd H H') : ∀ {vs : List V} {ds : List D}, DsAt hd H vs ds → DsAt hd H' vs ds
  | _, _, .nil => .nil
  | _, _, .cons h t => .cons (DAt.but hy s h) (DsAt.but hy s t)
end
theorem DsAt.len : ∀ {vs : List V} {ds : List D}, DsAt hd H vs ds → vs.length = ds.length
  | _, _, .nil => rfl
  | _, _, .cons _ t => congrArg (· + 1) t.len
theorem DsAt.get : ∀ {vs : List V} {ds : List D} {i : Nat} {v : V}, DsAt hd H vs ds → vs[i]? = some v → ∃ d, ds[i]? = some d ∧ DAt hd H v d
  | _, _, 0, _, .cons h _, e => by cases e; exact ⟨_, rfl, h⟩
  | _, _, i + 1, _, .cons _ t, e => t.get (i := i) e
theorem DsAt.get' : ∀ {vs : List V} {ds : List D} {i : Nat} {d : D}, DsAt hd H vs ds → ds[i]? = some d → ∃ v, vs[i]? = some v ∧ DAt hd H v d
  | _, _, 0, _, .cons h _, e => by cases e; exact ⟨_, rfl, h⟩
  | _, _, i + 1, _, .cons _ t, e => t.get' (i := i) e
end
/-! ### kinds -/
theorem kit_not {K : PySem.W.Frag} {a b : String} (hn : (Value.type a == Value.type b) = false) (hm : (if PySem.W.kitMeta b = true then (PySem.fastBuiltinMro a).map (·.contains (Value.type b)) else none) = some false) : PySem.W.kitOne K (.type a) (.type b) = some false := by
  unfold PySem.W.kitOne
  rw [if_neg (by rw [hn]; decide)]
  exact hm
/-! ### text times number -/
end L2

set_option linter.all false
set_option maxRecDepth 100000
set_option maxHeartbeats 4000000
namespace L2
open PySem PySem.StrLaws PySem.Builtin PySem.Builtin.Str PyProof.Rows
/-! ### shapes -/
/-! ### which things are wishes -/
/-! ### wishes -/
namespace Wi
end Wi
/-! ### texts -/
/-! ### the written dict of the shapes -/
end L2

set_option linter.all false
set_option maxRecDepth 100000
set_option maxHeartbeats 4000000
namespace L2
open PySem PySem.Spec PyProof.Rows
def D.ty : D → String
  | .non => "NoneType"
  | .bl _ => "bool"
  | .int _ => "int"
  | .str _ => "str"
  | .tup _ => "tuple"
  | .lst _ => "list"
  | .dct => "dict"
theorem DAt.ty {K : PySem.W.Frag} {hd : Addr} {H : Hp} {v : V} {d : D} (h : DAt hd H v d) : TyOf K H v (.type d.ty) := by
  cases h with
  | non => exact .non
  | bl b => exact .bl b
  | int n => exact .int n
  | str s _ => exact .str s
  | tup h _ => exact .tup h
  | lst h _ _ => exact .lst h
  | dct h => exact .dK h
def D.isTup : D → Bool
  | .tup _ => true
  | _ => false
def D.isInt : D → Bool
  | .int _ => true
  | .bl _ => true
  | _ => false
def D.isBool : D → Bool
  | .bl _ => true
  | _ => false
theorem kit_bool_int {K : PySem.W.Frag} : PySem.W.kitOne K (.type "bool") (.type "int") = some true := by
  unfold PySem.W.kitOne
  rw [if_neg (by decide)]
  show (if PySem.W.kitMeta "int" = true then (PySem.fastBuiltinMro "bool").map (·.contains (Value.type "int")) else none) = some true
  decide +kernel
theorem kd_tup {K : PySem.W.Frag} (d : D) : PySem.W.kitOne K (.type d.ty) (.type "tuple") = some d.isTup := by
  cases d with
  | tup s => exact kit_same
  | non => exact kit_not (a := "NoneType") (b := "tuple") (by decide) (by decide +kernel)
  | bl _ => exact kit_not (a := "bool") (b := "tuple") (by decide) (by decide +kernel)
  | int _ => exact kit_not (a := "int") (b := "tuple") (by decide) (by decide +kernel)
  | str _ => exact kit_not (a := "str") (b := "tuple") (by decide) (by decide +kernel)
  | lst _ => exact kit_not (a := "list") (b := "tuple") (by decide) (by decide +kernel)
  | dct => exact kit_not (a := "dict") (b := "tuple") (by decide) (by decide +kernel)
theorem kd_int {K : PySem.W.Frag} (d : D) : PySem.W.kitOne K (.type d.ty) (.type "int") = some d.isInt := by
  cases d with
  | int s => exact kit_same
  | bl b => exact kit_bool_int
  | non => exact kit_not (a := "NoneType") (b := "int") (by decide) (by decide +kernel)
  | str _ => exact kit_not (a := "str") (b := "int") (by decide) (by decide +kernel)
  | tup _ => exact kit_not (a := "tuple") (b := "int") (by decide) (by decide +kernel)
  | lst _ => exact kit_not (a := "list") (b := "int") (by decide) (by decide +kernel)
  | dct => exact kit_not (a := "dict") (b := "int") (by decide) (by decide +kernel)
theorem kd_bool {K : PySem.W.Frag} (d : D) : PySem.W.kitOne K (.type d.ty) (.type "bool") = some d.isBool := by
  cases d with
  | bl s => exact kit_same
  | non => exact kit_not (a := "NoneType") (b := "bool") (by decide) (by decide +kernel)
  | int _ => exact kit_not (a := "int") (b := "bool") (by decide) (by decide +kernel)
  | str _ => exact kit_not (a := "str") (b := "bool") (by decide) (by decide +kernel)
  | tup _ => exact kit_not (a := "tuple") (b := "bool") (by decide) (by decide +kernel)
  | lst _ => exact kit_not (a := "list") (b := "bool") (by decide) (by decide +kernel)
  | dct => exact kit_not (a := "dict") (b := "bool") (by decide) (by decide +kernel)
end L2

set_option linter.all false
set_option maxRecDepth 100000
set_option maxHeartbeats 4000000
namespace L2
open PySem PySem.StrLaws PySem.Builtin PySem.Builtin.Str PyProof.Rows
/-! ### wishes by their parts -/
namespace Pa
end Pa
namespace Wi
end Wi
/-! ### wishes laid hold no lists -/
end L2

set_option linter.all false
set_option maxRecDepth 100000
set_option maxHeartbeats 4000000
namespace L2
open PySem PySem.Spec PyProof.Rows
end L2

set_option linter.all false
set_option maxRecDepth 100000
set_option maxHeartbeats 4000000
namespace L2
open PySem PySem.Spec PyProof.Rows
/-! ### lists of pairs as tables -/
section
variable {κ : Type} [DecidableEq κ]
/-- in its place, or at the end -/
def putK (kvs : List (κ × V)) (k : κ) (v : V) : List (κ × V) :=
  if (kvs.any fun kv => decide (kv.1 = k)) = true then kvs.map (fun kv => if kv.1 = k then (kv.1, v) else kv) else kvs ++ [(k, v)]

theorem length_putK (kvs : List (κ × V)) (k : κ) (v : V) : (putK kvs k v).length ≤ kvs.length + 1 := by
  unfold putK
  split
  · rw [List.length_map]; omega
  · rw [List.length_append, List.length_cons, List.length_nil]; omega


theorem KV.any {kvs : List (κ × V)} {vs : List (κ × Value)} (r : KV kvs vs) (k : κ) : (kvs.any fun kv => decide (kv.1 = k)) = vs.any fun kv => decide (kv.1 = k) := by
  unfold KV at r
  induction r with
  | nil => rfl
  | cons h t ih => rw [List.any_cons, List.any_cons, ih, h.1]
theorem KV.repl {kvs : List (κ × V)} {vs : List (κ × Value)} (r : KV kvs vs) (k : κ) {y : V} {u : Value} (ry : RelV y u) :
    KV (kvs.map fun kv => if kv.1 = k then (kv.1, y) else kv) (vs.map fun kv => if kv.1 = k then (kv.1, u) else kv) := by
  unfold KV at r ⊢
  induction r with
  | nil => exact .nil
  | @cons p q ps qs h t ih =>
    rw [List.map_cons, List.map_cons]
    refine .cons ?_ ih
    obtain ⟨h1, h2⟩ := h
    by_cases e : p.1 = k
    · rw [if_pos e, if_pos (h1.symm.trans e)]; exact ⟨h1, ry⟩
    · rw [if_neg e, if_neg (fun z => e (h1.trans z))]; exact ⟨h1, h2⟩
theorem KV.put {kvs : List (κ × V)} {vs : List (κ × Value)} (r : KV kvs vs) (k : κ) {y : V} {u : Value} (ry : RelV y u) : KV (putK kvs k y) (stored vs k u) := by
  unfold putK stored
  rw [r.any k]
  by_cases e : (vs.any fun kv => decide (kv.1 = k)) = true
  · rw [if_pos e, if_pos e]; exact r.repl k ry
  · rw [if_neg e, if_neg e]; exact Paired.snoc r ⟨rfl, ry⟩
end


/-! ### a tracked dict, its keys ints and texts or tuples of these -/
theorem kV_is {P : Program} {w : World} {k : Key} {u : Value} (r : RelV (kV k) u) : (mixKind P w).is k u = true := by
  cases k with
  | inl i => obtain ⟨t, e⟩ := (show ∃ t, u = Value.int i t from r); subst e; exact mixKind_int P w i t
  | inr x => obtain ⟨t, e⟩ := (show ∃ t, u = Value.str x t from r); subst e; exact mixKind_str P w x t


section
variable {P : Program} {w : World} {H : Hp} {h : Heap} {a : Addr}
theorem rd_of {u : HO} (ok : HOk P w H h) (e : Rd H a u) : ObjOk P w H h a u := e.ok ok
theorem dk_rd {kvs : List (Key × V)} (ok : HOk P w H h) (e : Rd H a (.dK kvs)) : kvs.length ≤ sizeLine ∧ (a == sysModules) = false ∧ ∃ vs, KV kvs vs ∧ h.DictOf (mixKind P w) a vs :=
  show ObjOk P w H h a (.dK kvs) from rd_of ok e
theorem dk_of {kvs : List (Key × V)} (ok : HOk P w H h) (e : H a = some (.dK kvs)) : kvs.length ≤ sizeLine ∧ (a == sysModules) = false ∧ ∃ vs, KV kvs vs ∧ h.DictOf (mixKind P w) a vs := dk_rd ok (.inl e)
end



section
variable {X : Cx} {pins : List (Addr × Obj)} {σ : St} {H : Hp} {s : Shared} {a : Addr} {y v : V} {u r : Value} {o : Option V} {A : Around} {E : Value → Shared → Prop}

theorem Inv.big (I : Inv X pins σ H s) : sysModules < s.heap.objs.size := by
  have h : mainGlobals < s.heap.objs.size := (I.mod.glob.keeps I.bk).lt
  exact Nat.lt_trans (by decide) h

/-- a dict's object is replaced -/
theorem d_write {h' : Heap} {t' : Nat} {ob : HO} (I : Inv X pins σ H s) (mu : Mut (H a)) (hs : Heap.SameBut a s.heap h') (he : ∃ q, h'.get? a = some q) (new : ObjOk X.prog X.w (upd H a ob) h' a ob) :
    Inv X pins σ (upd H a ob) { s with heap := h', toks := t' } :=
  I.write (x := a) (e := a) mu (.inl rfl) (fun b q hb z => (hs.2 b hb).trans z) he new
theorem dk_new {P : Program} {w : World} {H' : Hp} {h' : Heap} {kvs : List (Key × V)} {vs : List (Key × Value)} (z : kvs.length ≤ sizeLine) (hd : (a == sysModules) = false) (rel : KV kvs vs) (dd : h'.DictOf (mixKind P w) a vs) :
    ObjOk P w H' h' a (.dK kvs) := ⟨z, hd, vs, rel, dd⟩
end



/-! ### readings and rules -/





/-! ### displays -/
theorem dk_empty {P : Program} {w : World} {H : Hp} (h : Heap) (hb : sysModules < h.objs.size) : ObjOk P w H (h.push { cls := .type "dict", data := .dict #[] }) h.objs.size (.dK []) :=
  ⟨Nat.zero_le _, beq_eq_false_iff_ne.mpr (Ne.symm (Nat.ne_of_lt hb)), [], .nil, Heap.DictOf.new h⟩

/-- the pairs of a display, from the left -/
def tPairs : List (TE × TE) → St → Hp → (List (V × V) → Hp → Prop) → Prop
  | [], _, H, Q => Q [] H
  | (tk, tv) :: r, σ, H, Q => tk σ H fun x H1 => tv σ H1 fun y H2 => tPairs r σ H2 fun ps H3 => Q ((x, y) :: ps) H3
abbrev VV : List (V × V) → List (Value × Value) → Prop := Paired fun p q => RelV p.1 q.1 ∧ RelV p.2 q.2
def PPs (X : Cx) (pos : Pos) (keys : List (Option Expr)) (values : List Expr) (trs : List (TE × TE)) : Prop :=
  ∀ (pins : List (Addr × Obj)) (s : Shared) (σ : St) (H : Hp) (Q : List (V × V) → Hp → Prop), Inv X pins σ H s → tPairs trs σ H Q →
    wpAny (model X.prog X.w) X.A (evalPairs (pairTrees keys values X.env pos)) (fun vs s' => ∃ ps H', Inv X pins σ H' s' ∧ VV ps vs ∧ Q ps H') X.xe s
theorem pps_nil {X : Cx} {pos : Pos} : PPs X pos [] [] [] := fun pins s σ H Q I h => pairTrees_nil_walk ⟨[], H, I, .nil, h⟩
theorem pps_cons {X : Cx} {pos : Pos} {k v : Expr} {ks : List (Option Expr)} {vs : List Expr} {tk tv : TE} {trs : List (TE × TE)} (hk : PE X k tk) (hv : PE X v tv) (hr : PPs X pos ks vs trs) :
    PPs X pos (some k :: ks) (v :: vs) ((tk, tv) :: trs) := fun pins s σ H Q I h =>
  pairTrees_cons_walk (thn (hk pins s σ H _ I h) fun u s1 ⟨x, H1, I1, rx, q1⟩ => thn (hv pins s1 σ H1 _ I1 q1) fun w2 s2 ⟨y, H2, I2, ry, q2⟩ =>
    thn (hr pins s2 σ H2 _ I2 q2) fun ws s3 ⟨ps, H3, I3, rel, q3⟩ => ⟨(x, y) :: ps, H3, I3, .cons ⟨rx, ry⟩ rel, q3⟩)

def mergeK (kvs more : List (Key × V)) : List (Key × V) := more.foldl (fun acc kv => putK acc kv.1 kv.2) kvs
theorem KV.merge : ∀ {more : List (Key × V)} {rs : List (Key × Value)} {kvs : List (Key × V)} {vs : List (Key × Value)}, KV more rs → KV kvs vs → KV (mergeK kvs more) (merged vs rs) := by
  intro more rs kvs vs r
  unfold KV at r
  induction r generalizing kvs vs with
  | nil => intro q; exact q
  | @cons p q ps qs h t ih =>
    intro r0
    have e : KV (putK kvs p.1 p.2) (stored vs q.1 q.2) := by
      have := r0.put p.1 h.2
      rw [← h.1]; exact this
    exact ih e
theorem length_mergeK : ∀ (more kvs : List (Key × V)), (mergeK kvs more).length ≤ kvs.length + more.length
  | [], kvs => by show kvs.length ≤ kvs.length + 0; omega
  | p :: r, kvs => by
    have h1 := length_mergeK r (putK kvs p.1 p.2)
    have h2 := length_putK kvs p.1 p.2
    show (mergeK (putK kvs p.1 p.2) r).length ≤ _
    rw [List.length_cons]; omega
theorem carries_of {P : Program} {w : World} : ∀ {kvs : List (Key × V)} {ws : List (Value × Value)}, VV (kvs.map fun kv => (kV kv.1, kv.2)) ws → ∃ rs, Carries (mixKind P w) ws rs ∧ KV kvs rs
  | [], _, r => by rw [List.map_nil] at r; cases r; exact ⟨[], True.intro, .nil⟩
  | p :: kvs, _, r => by
    rw [List.map_cons] at r
    cases r with
    | @cons a b as bs h t =>
      obtain ⟨rs, c, q⟩ := carries_of (P := P) (w := w) t
      obtain ⟨b1, b2⟩ := b
      exact ⟨(p.1, b2) :: rs, ⟨kV_is h.1, rfl, c⟩, .cons ⟨rfl, h.2⟩ q⟩
/-- {k: v, ..} with keys ints and texts; the new dict stands empty while the pairs are made -/
def tDisp (trs : List (TE × TE)) : TE := fun σ H Q => ∀ p, H p = none → tPairs trs σ (upd H p (.dK [])) fun ps H2 => H2 p = some (.dK []) ∧ ∃ kvs : List (Key × V), ps = kvs.map (fun kv => (kV kv.1, kv.2)) ∧ kvs.length ≤ 15 ∧ Q (.ref p) (upd H2 p (.dK (mergeK [] kvs)))
theorem pe_disp {X : Cx} {pos : Pos} {keys : List (Option Expr)} {values : List Expr} {trs : List (TE × TE)} (h : PPs X pos keys values trs) (hall : keys.all (·.isSome) = true) (hl : keys.length = values.length) (h0 : keys ≠ [])
    (h15 : keys.length ≤ 15) : PE X (.Dict keys values pos) (tDisp trs) := by
  intro pins s σ H Q I q
  have hn := I.hok.fresh (Nat.le_refl s.heap.objs.size)
  have I1 := I.laid (a := s.heap.objs.size) (o := .dK []) (h' := s.heap.push { cls := .type "dict", data := .dict #[] }) (t' := s.toks) (fun _ _ q => Heap.get?_push_of_some _ q) (Nat.le_refl _) (dk_empty s.heap I.big)
  refine wpAny_Dict_walk (knd := mixKind X.prog X.w) hall hl h0 h15 (thn (h pins _ σ _ _ I1 (q _ hn)) fun ws s2 ⟨ps, H2, I2, rel, e, kvs, ep, lk, q2⟩ => ?_)
  subst ep
  obtain ⟨rs, c, rk⟩ := carries_of (P := X.prog) (w := X.w) rel
  obtain ⟨z, hd, vs0, r0, dd⟩ := dk_of I2.hok e
  cases r0
  refine ⟨rs, c, dd, fun h' dd' hs => ⟨.ref s.heap.objs.size, _, ?_, rfl, q2⟩⟩
  have hz : (mergeK [] kvs).length ≤ sizeLine := by
    have h1 := length_mergeK kvs []
    rw [List.length_nil] at h1
    rw [sizeLine_eq]; omega
  have he : ∃ q, h'.get? s.heap.objs.size = some q := let ⟨q, _, _, hq, _⟩ := dd'; ⟨q, hq⟩
  exact d_write I2 (by rw [e]; exact True.intro) hs he (dk_new hz hd (rk.merge .nil) dd')


/-! ### methods -/




/-! ### dict(d): a copy -/


end L2

namespace L2
open PySem PySem.Spec PyProof.Rows
/-! ### a dict's pairs: keys that differ -/
end L2

set_option linter.all false
set_option maxRecDepth 100000
set_option maxHeartbeats 4000000
namespace L2
open PySem PySem.Spec PyProof.Rows
/-! ### a comprehension with one condition -/
end L2

set_option linter.all false
set_option maxRecDepth 100000
set_option maxHeartbeats 4000000
namespace L2
open PySem PySem.Spec PyProof.Rows
/-! ### a dict while it is walked -/
/-! ### its keys, its values -/
end L2

set_option linter.all false
set_option maxRecDepth 100000
set_option maxHeartbeats 4000000
namespace L2
open PySem PySem.Spec PyProof.Rows
/-! ### names to numbers -/
end L2

set_option linter.all false
set_option maxRecDepth 100000
set_option maxHeartbeats 4000000
namespace L2
open PySem PySem.StrLaws PySem.Builtin PySem.Builtin.Str PyProof.Rows PySem.NumText
/-! ### any text read as a whole number -/
/-! ### texts cut -/
/-! ### fractions, points, rings -/
/-! ### wishes -/
end L2

set_option linter.all false
set_option maxRecDepth 100000
set_option maxHeartbeats 4000000
namespace L2
open PySem PySem.Spec PyProof.Rows
/-! ### slices of texts -/
section
variable {X : Cx}
/-! ### xs == [] -/
/-! ### things alike -/
mutual
def pd : D → PyData
  | .non => .none
  | .bl b => .bool b
  | .int n => .int n
  | .str s => .str s
  | .tup ds => .tuple (pds ds)
  | .lst ds => .list (pds ds)
  | .dct => .none
def pds : List D → List PyData
  | [] => []
  | d :: r => pd d :: pds r
end
open PySem.SeqAt PyProof.V in
end
/-! ### comprehensions whose elements are read, whatever they are -/
mutual
theorem DAt.butD {hd D : Addr} {H H' : Hp} {ys : List V} (hy : H D = some (.lst ys)) (s : SameB D H H') : ∀ {v : V} {d : L2.D}, DAt hd H v d → DAt D H v d → DAt hd H' v d
  | _, _, .non, _ => .non
  | _, _, .bl b, _ => .bl b
  | _, _, .int n, _ => .int n
  | _, _, .str x h, _ => .str x h
  | _, _, .tup h t, .tup h' t' => by
    rw [h] at h'
    cases h'
    exact .tup (s _ _ h fun e => by rw [e, hy] at h; cases h) (DsAt.butD hy s t t')
  | _, _, .lst h n t, .lst h' n' t' => by
    rw [h] at h'
    cases h'
    exact .lst (s _ _ h n') n (DsAt.butD hy s t t')
  | _, _, .dct h, _ => .dct (s _ _ h fun e => by rw [e, hy] at h; cases h)
theorem DsAt.butD {hd D : Addr} {H H' : Hp} {ys : List V} (hy : H D = some (.lst ys)) (s : SameB D H H') : ∀ {vs : List V} {ds : List L2.D}, DsAt hd H vs ds → DsAt D H vs ds → DsAt hd H' vs ds
  | _, _, .nil, _ => .nil
  | _, _, .cons h t, .cons h' t' => .cons (DAt.butD hy s h h') (DsAt.butD hy s t t')
end
end L2

set_option linter.all false
set_option maxRecDepth 100000
set_option maxHeartbeats 4000000
namespace L2
open PySem PySem.StrLaws PySem.Builtin PyProof.Rows
/-! ### slices -/
end L2

set_option linter.all false
set_option maxRecDepth 100000
set_option maxHeartbeats 4000000
namespace L2
open PySem PySem.Spec PyProof.Rows
/-! ### a comprehension with an if that catches any names -/
end L2

set_option linter.all false
set_option maxRecDepth 100000
set_option maxHeartbeats 4000000
namespace L2
open PySem PySem.Spec PyProof.Rows PySem.W
/-! ### what a sort does, as a tree of questions -/
namespace KO
end KO
/-! ### rows of ints -/
end L2

set_option linter.all false
set_option maxRecDepth 100000
set_option maxHeartbeats 4000000
namespace L2
open PySem PySem.Spec PyProof.Rows PySem.W
/-! ### a sort by keys that are tuples of ints -/
end L2

set_option linter.all false
set_option maxRecDepth 100000
set_option maxHeartbeats 4000000
namespace L2
open PySem PySem.Spec PyProof.Rows PySem.W
/-! ### a sort by keys that a function tells -/
end L2

set_option linter.all false
set_option maxRecDepth 100000
set_option maxHeartbeats 4000000
namespace L2
open PySem PySem.Spec PyProof.Rows PySem.W
/-! ### a lambda: made, called -/
end L2

set_option linter.all false
set_option maxRecDepth 100000
set_option maxHeartbeats 4000000
namespace L2
open PySem PySem.Spec PyProof.Rows PySem.W
/-! ### sorted in the layer -/
end L2

set_option linter.all false
set_option maxRecDepth 100000
set_option maxHeartbeats 4000000
namespace L2
open PySem PySem.Spec PyProof.Rows PySem.W
theorem Room.units65 {k : Nat} {A : Around} (r : Room k A) : A.units + 65 < cLine := by have := r.un; omega
section
open PySem.SeqAt PyProof.V
variable {X : Cx}
theorem map_int_inj : ∀ {a b : List Int}, a.map V.int = b.map V.int → a = b
  | [], [], _ => rfl
  | [], _ :: _, h => by cases h
  | _ :: _, [], h => by cases h
  | x :: a, y :: b, h => by
    simp only [List.map_cons, List.cons.injEq, V.int.injEq] at h
    rw [h.1, map_int_inj h.2]
open Classical in
noncomputable def hitT (K : PySem.W.Frag) (H : Hp) (ns : List Int) : Value → Bool
  | .ref a => decide (TupI K H (.ref a) ns)
  | _ => false
open Classical in
theorem hit_any {pins : List (Addr × Obj)} {σ : St} {H : Hp} {s : Shared} {ns : List Int} (I : Inv X pins σ H s) : ∀ {ys : List V} {us : List Value} {nss : List (List Int)}, Vals ys us → Paired (TupI X.K H) ys nss → us.any (hitT X.K H ns) = decide (ns ∈ nss) ∧ ∀ u ∈ us, ∃ y ms, RelV y u ∧ TupI X.K H y ms ∧ hitT X.K H ns u = decide (ms = ns)
  | _, _, _, .nil, .nil => ⟨by simp, fun u hu => by simp at hu⟩
  | _, _, _, .cons (a := y) (b := u) r t, .cons (b := ms) p q => by
    obtain ⟨h1, h2⟩ := hit_any (ns := ns) I t q
    have e : hitT X.K H ns u = decide (ms = ns) := by
      obtain ⟨a, rfl, ha⟩ := id p
      cases r
      show decide (TupI X.K H (.ref a) ns) = _
      by_cases hm : ms = ns
      · rw [decide_eq_true hm, decide_eq_true (hm ▸ p)]
      · rw [decide_eq_false hm, decide_eq_false]
        rintro ⟨b, eb, hb⟩
        cases eb
        have := I.tuple_inj ha hb
        exact hm (map_int_inj this)
    refine ⟨?_, fun v hv => ?_⟩
    · rw [List.any_cons, h1, e]
      by_cases hm : ms = ns
      · simp [hm]
      · simp [hm, Ne.symm hm]
    · rcases List.mem_cons.mp hv with rfl | hv
      · exact ⟨y, ms, r, p, e⟩
      · exact h2 v hv
end
/-! ### the head of a law whose text makes lambdas: the tables of their defs are tracked -/
end L2

set_option linter.all false
set_option maxRecDepth 100000
namespace L2
open PySem PySem.Spec PyProof.Rows
/-- a def within a class -/
structure FnI (K : PySem.W.Frag) (x qual : Str) (st : Stmt) (f : Addr) (fd : FuncData) (ps : List Str) : Prop where
  F : Fun K x qual st f fd
  b : Binds K fd ps []
end L2

set_option linter.all false
set_option maxRecDepth 100000
set_option maxHeartbeats 4000000
namespace L2
open PySem PySem.Spec PyProof.Rows
/-! ### steps that change no object's dict: no code is run, no such write is made -/
def Calm {α : Type} : Sem α → Prop
  | .pure _ => True
  | .raise _ => True
  | .unsupported _ => True
  | .finish _ => True
  | .rule _ k => Calm (k ())
  | .at _ k => Calm (k ())
  | .load _ _ k => ∀ o, Calm (k o)
  | .update _ _ f k => (∀ o : Obj, (f o).dict = o.dict ∧ (o.data ≠ .freed → (f o).data ≠ .freed)) ∧ Calm (k ())
  | .alloc _ k => ∀ a, Calm (k a)
  | .loadIfAlive _ k => ∀ o, Calm (k o)
  | .point _ k => Calm (k ())
  | .register _ _ => True
  | .fresh k => ∀ t, Calm (k t)
  | .ask k => ∀ t, Calm (k t)
  | .choose _ _ _ => False
  | .os _ _ _ => False
  | .call _ _ _ _ _ => False
  | .handled _ k => ∀ t, Calm (k t)
  | .newGen _ _ => False
  | .genState _ _ => False
  | .resume _ _ _ _ => False
  | .yield _ _ _ _ => True
  | .stack k => ∀ t, Calm (k t)
  | .fork _ _ => True
  | .thread k => ∀ t, Calm (k t)
  | .await _ _ _ _ _ => True
/-- every object has its dict yet -/
def DK (h h' : Heap) : Prop := ∀ b o, h.get? b = some o → ∃ o', h'.get? b = some o' ∧ o'.dict = o.dict
theorem DK.refl (h : Heap) : DK h h := fun b o e => ⟨o, e, rfl⟩
theorem DK.trans {a b c : Heap} (x : DK a b) (y : DK b c) : DK a c := fun n o e => by
  obtain ⟨o1, e1, d1⟩ := x n o e
  obtain ⟨o2, e2, d2⟩ := y n o1 e1
  exact ⟨o2, e2, d2.trans d1⟩
theorem DK.push (h : Heap) (u : Obj) : DK h (h.push u) := fun b o e => ⟨o, Heap.get?_push_of_some _ e, rfl⟩
theorem get_live {h : Heap} {b : Addr} {o : Obj} (e : h.get? b = some o) : o.data ≠ .freed := fun z => by
  unfold Heap.get? at e
  obtain ⟨c, d, dt, sl⟩ := o
  have z' : dt = .freed := z
  subst z'
  split at e
  · cases e
  · rename_i h1 h2
    exact h2 _ _ _ e
theorem DK.update {h : Heap} {a : Addr} {f : Obj → Obj} (hf : ∀ o : Obj, (f o).dict = o.dict ∧ (o.data ≠ .freed → (f o).data ≠ .freed)) : DK h (h.update a f) := fun b o e => by
  by_cases hb : a = b
  · subst hb
    have h1 := (hf o).2 (get_live e)
    refine ⟨f o, Heap.get?_update_self f e ?_, (hf o).1⟩
    revert h1
    generalize f o = u
    intro h1
    obtain ⟨c, d, dt, sl⟩ := u
    cases dt with
    | freed => exact absurd rfl h1
    | _ => rfl
  · exact ⟨o, (Heap.get?_update_other _ _ hb).trans e, rfl⟩
theorem calm_wp {α : Type} {M : Model} {Γ : PySem.Ctx} {Q : α → Pos → Shared → Prop} {E : Value → Pos → Shared → Prop} (s0 : Shared) : ∀ (t : Sem α) (p : Pos) (s : Shared), Calm t → DK s0.heap s.heap → Sem.wp M Γ t Q E p s → Sem.wp M Γ t (fun a p' s' => Q a p' s' ∧ DK s0.heap s'.heap) (fun e p' s' => E e p' s' ∧ DK s0.heap s'.heap) p s := by
  intro t
  induction t with
  | pure a => exact fun p s _ d h => ⟨h, d⟩
  | raise v => exact fun p s _ d h => ⟨h, d⟩
  | unsupported | finish | yield | fork | await | register => exact fun p s _ _ h => h
  | rule _ k ih => exact fun p s c d h => ih () p s c d h
  | «at» p' k ih => exact fun p s c d h => ih () p' s c d h
  | alloc o k ih => exact fun p s c d h => ih _ p _ (c _) (d.trans (DK.push _ _)) h
  | loadIfAlive _ k ih => exact fun p s c d h => ih _ p s (c _) d h
  | point _ k ih => exact fun p s c d h => ih () p s c d h
  | fresh k ih => exact fun p s c d h => ih _ p _ (c _) d h
  | ask k ih => exact fun p s c d h => ih _ p s (c _) d h
  | handled _ k ih => exact fun p s c d h => ih _ p s (c _) d h
  | stack k ih => exact fun p s c d h => ih _ p s (c _) d h
  | thread k ih => exact fun p s c d h => ih _ p s (c _) d h
  | load a _ k ih => exact fun p s c d ⟨o, ho, h⟩ => ⟨o, ho, ih o p s (c o) d h⟩
  | update a _ f k ih => exact fun p s c d ⟨ha, h⟩ => ⟨ha, ih () p _ c.2 (d.trans (DK.update c.1)) h⟩
  | choose | os | call | newGen | genState | resume => exact fun p s c _ _ => c.elim
theorem calm_and {α : Type} {M : Model} {A : Around} {t : Sem α} {Q : α → Shared → Prop} {E : Value → Shared → Prop} {s : Shared} (c : Calm t) (h : wpAny M A t Q E s) : wpAny M A t (fun a s' => Q a s' ∧ DK s.heap s'.heap) (fun e s' => E e s' ∧ DK s.heap s'.heap) s :=
  fun Γ p hΓ => calm_wp s t p s c (DK.refl _) (h Γ p hΓ)
theorem Calm.bnd {α β : Type} {f : α → Sem β} : ∀ {m : Sem α}, Calm m → (∀ a, Calm (f a)) → Calm (m >>= f) := by
  intro m
  show Calm m → (∀ a, Calm (f a)) → Calm (m.bind f)
  induction m with
  | pure a => exact fun _ h => h a
  | raise | unsupported | finish | yield | fork | await | register => exact fun _ _ => trivial
  | rule _ k ih | «at» _ k ih | point _ k ih => exact fun c h => ih () c h
  | alloc _ k ih | loadIfAlive _ k ih | fresh k ih | ask k ih | handled _ k ih | stack k ih | thread k ih | load _ _ k ih => exact fun c h x => ih x (c x) h
  | update a _ f k ih => exact fun c h => ⟨c.1, ih () c.2 h⟩
  | choose | os | call | newGen | genState | resume => exact fun c _ => c.elim
theorem calm_fieldsOf (v : Value) : Calm (fieldsOf v) := by
  unfold fieldsOf
  cases v with
  | ref a =>
    refine Calm.bnd (m := load a) (fun _ => trivial) fun o => ?_
    cases o.data <;> trivial
  | _ => trivial
theorem calm_field (v : Value) (i : Nat) : Calm (field v i) := by
  unfold field
  refine Calm.bnd (calm_fieldsOf v) fun vs => ?_
  split <;> trivial
theorem calm_setField (v : Value) (i : Nat) (x : Value) : Calm (setField v i x) := by
  unfold setField
  cases v with
  | ref a =>
    unfold updateField
    refine Calm.bnd (m := load a) (fun _ => trivial) fun o => ?_
    cases hd : o.data with
    | fields vs =>
      dsimp only
      split
      · refine ⟨fun o => ⟨?_, fun n => ?_⟩, trivial⟩
        · obtain ⟨c, d, dt, sl⟩ := o
          cases dt <;> rfl
        · obtain ⟨c, d, dt, sl⟩ := o
          cases dt <;> first | exact absurd rfl n | (intro z; cases z)
      · trivial
    | _ => trivial
  | _ => trivial
theorem calm_stack : Calm stack := fun _ => trivial
theorem calm_ready : ∀ l : List Env, Calm (readyFrames l)
  | [] => trivial
  | env :: outer => by
    unfold readyFrames
    cases env.frame with
    | none => trivial
    | some f =>
      dsimp only
      refine Calm.bnd (m := load f) (fun _ => trivial) fun o => ?_
      split
      · trivial
      · refine Calm.bnd ?_ fun b => Calm.bnd ?_ fun v => Calm.bnd (m := update f _) ⟨fun o => ⟨rfl, id⟩, trivial⟩ fun _ => calm_ready outer
        · unfold behindIsImport
          split
          · trivial
          · split
            · trivial
            · exact Calm.bnd (calm_field _ _) fun _ => trivial
        · unfold keptBack
          split
          · split
            · trivial
            · exact Calm.bnd (show Calm underTheClaimsCaller from Calm.bnd calm_stack fun _ => trivial) fun _ => trivial
          · trivial
theorem calm_frameOf (env : Env) : Calm (PySem.frameOf env) := by
  unfold PySem.frameOf
  refine Calm.bnd (show Calm frameEnvs from Calm.bnd calm_stack fun _ => trivial) fun l => Calm.bnd ?_ fun x => by cases x <;> trivial
  unfold frameObject
  split
  · trivial
  · exact Calm.bnd (calm_ready _) fun _ => trivial
theorem calm_place (f : Addr) (b : Bool) : Calm (entryPlaceOf f b) := by
  unfold entryPlaceOf
  refine Calm.bnd calm_stack fun l => ?_
  split <;> trivial
theorem calm_newEntry (a b c d e : Value) (l : List Value) : Calm (EntryCells.newEntry a b c d e l) := by
  unfold EntryCells.newEntry newFields newObj newObjAsIs
  dsimp only
  generalize ([a, b, c, d, e] ++ (if l.isEmpty then List.replicate 6 Value.none else l)).toArray = vs
  split
  · trivial
  · show Calm (alloc _ >>= fun a => _)
    refine Calm.bnd (fun _ => trivial) fun a => ?_
    trivial
theorem calm_note (e : Value) (env : Env) : Calm (noteFrame e env) := by
  unfold noteFrame
  cases env.frame with
  | none => trivial
  | some f =>
    dsimp only
    have fin : ∀ v, Calm (do let a ← PySem.frameOf env; let pl ← entryPlaceOf f (v != .none); let b ← EntryCells.newEntry v a .none (rawInt f) .none pl; setField e 1 b) := fun v =>
      Calm.bnd (calm_frameOf env) fun _ => Calm.bnd (calm_place _ _) fun _ => Calm.bnd (calm_newEntry _ _ _ _ _ _) fun _ => calm_setField _ _ _
    refine Calm.bnd (calm_field _ _) fun v => ?_
    split
    · refine Calm.bnd (calm_field _ _) fun u => ?_
      split
      · trivial
      · exact Calm.bnd (calm_setField _ _ _) fun _ => fin v
    · exact fin v
theorem calm_flight (e : Value) (f : Option Addr) : Calm (setFlight e f) := by
  unfold setFlight
  refine Calm.bnd (calm_field _ _) fun v => ?_
  split
  · exact calm_setField _ _ _
  · trivial
theorem calm_leaving (env : Env) (e : Value) : Calm (leaving env e) := by
  unfold leaving
  exact Calm.bnd (calm_note e env) fun _ => calm_flight _ _
end L2

set_option linter.all false
set_option maxRecDepth 100000
set_option maxHeartbeats 4000000
namespace L2
open PySem PySem.Spec PyProof.Rows
/-! ### exceptions with fields of their own -/
/-- an exception stands there, this its dict -/
def exA (a : Addr) (cls : Value) (dd : Option Addr) : Heap → Prop := fun h => ∃ o vs, h.get? a = some o ∧ o.cls = cls ∧ o.dict = dd ∧ o.data = .fields vs
/-- one that never flew -/
def exO (a : Addr) (cls : Value) (dd : Option Addr) (t : Addr) : Heap → Prop := fun h => h.get? a = some { cls := cls, dict := dd, data := .fields #[.ref t, .none, .none, .none, .bool false, .none] }
/-- its fields -/
def xdI (d : Addr) (fs : List (Str × V)) : Heap → Prop := fun h => ∃ mA, h.Ns1 d mA ∧ ∀ f, RelO (fs.lookup f) (mA f)
theorem exA.of {a : Addr} {cls : Value} {dd : Option Addr} {h : Heap} (x : exA a cls dd h) : isOf a cls h := let ⟨o, _, h1, h2, _⟩ := x; ⟨o, h1, h2⟩
/-- an own class of exceptions -/
def exM (K : PySem.W.Frag) (C : Addr) : Bool := match PySem.W.clsIn K C with
  | some cd => cd.hasDict && (match cd.mro with
    | [.ref C', .ref _, .type "ValueError", .type "Exception", .type "BaseException", .type "object"] => C' == C
    | _ => false)
  | none => false
structure XCls (K : PySem.W.Frag) (C : Addr) : Prop where
  c : exC K C = true
  m : exM K C = true
  sa : PySem.W.findIn K (.ref C) "__setattr__" = some (some (.builtin "object.__setattr__"))
theorem exM_of {K : PySem.W.Frag} {C : Addr} (h : exM K C = true) : ∃ cd D, PySem.W.clsIn K C = some cd ∧ cd.hasDict = true ∧ cd.mro = .ref C :: .ref D :: veB := by
  unfold exM at h
  split at h
  · rename_i cd hc
    rw [Bool.and_eq_true] at h
    obtain ⟨h1, h2⟩ := h
    split at h2
    · rename_i C' D hm
      obtain rfl : C' = C := beq_iff_eq.mp h2
      exact ⟨cd, D, hc, h1, hm⟩
    · cases h2
  · cases h
section
open PySem.W PySem.Calls Builtin Builtin.ObjectAttr
variable {prog : Program} {w : World} {A : Around} {E : Value → Shared → Prop} {s : Shared} {K : PySem.W.Frag} {x C dx : Addr} {ox : Obj} {od : Option Obj} {name : Str} {v : Value}
theorem xs_open {tk : Tok} {R : Result → Shared → Prop} (X : K.In s.heap) (I : InstAt s.heap x ox C od) (c : XCls K C) (n : findIn K (.ref C) name = some none)
    (h : wpAny (model prog w) A.in1 (storeInOwnDict (.ref x) (.ref C) (.str name tk) name v false)
      (fun fin s' => match fin with | .done f => R (.ok f) s' | .again c' => c'.quiet = true ∧ codeAny (model prog w) A c' R s') (fun e s' => R (.error e) s') s) :
    codeAny (model prog w) A (.call (.builtin "object.__setattr__") ⟨[.ref x, .str name tk, v], []⟩) R s := by
  have SF := PySem.F.store_ValueError
  obtain ⟨cd, D, hc, hh, hm⟩ := exM_of c.m
  have ne : cd.mro.isEmpty = false := by rw [hm]; rfl
  have sub : Looks (model prog w) s.heap (isInstance (.ref x) (.type "object")) true := I.type.andThen (looks_mroIn X (by unfold mroIn; rw [hc, Option.bind_some, if_neg (by rw [ne]; decide), hm]; rfl))
  refine codeAny_call_builtin SF.slot.plain SF.entry (@check_slot (model prog w) _ _ s "object.__setattr__" "object" "__setattr__" (.ref x) [.str name tk, v] [] _ SF.kind SF.split sub (SF.args (.ref x) (.str name tk) v) ?_)
  have hmr : Looks (model prog w) s.heap (mroOf (.ref C)) cd.mro := (looks_clsIn X hc).andThen .now
  rw [osa_eq, refuse_eq]
  refine wpAny_bind (wpAny_bind (I.type.here (wpAny_bind (hmr.here ?_))))
  rw [hm, refuseLoop_ref, refuseLoop_ref]
  rw [show refuseLoop (.ref x) "__setattr__" veB = pure () from SF.passes (.ref x)]
  exact wpAny_pure (wpAny_bind (I.type.here (wpAny_bind ((looks_findIn X n).here (wpAny_bind (wpAny_pure h))))))
theorem xs_old {vs : Array Value} {mA : Str → Option Value} {ns : List Str} {Q : Unit → Shared → Prop} (X : K.In s.heap) (hx : s.heap.get? x = some { cls := .ref C, dict := some dx, data := .fields vs }) (hn : s.heap.Ns1 dx mA) (hne : dx ≠ x) (c : XCls K C) (n : findIn K (.ref C) name = some none)
    (hw : PySem.Within mA ns) (hsz : ns.length ≤ sizeLine)
    (h : ∀ h' tk, h'.Ns1 dx (fun y => if y = name then some v else mA y) → Heap.SameBut dx s.heap h' → Q () { s with heap := h', toks := tk }) :
    wpAny (model prog w) A (setAttr (.ref x) name v) Q E s := by
  obtain ⟨od, hod, _⟩ := lookIn_ns hn
  have J : InstAt s.heap x { cls := .ref C, dict := some dx, data := .fields vs } C (some od) := ⟨hx, rfl, rfl, hod⟩
  refine set_plain X J c.sa (xs_open (s := { s with toks := s.toks + 1 }) X J c n ?_)
  obtain ⟨cd, D, hc, hd', hm⟩ := exM_of c.m
  refine wpAny_bind (wpAny_pure (wpAny_bind (wpAny_bind (wpAny_loadPart hx (wpAny_bind (PySem.W.Looks.here (s := { s with toks := s.toks + 1 }) (PySem.W.looks_clsIn X hc) ?_))))))
  rw [hd']
  refine wpAny_pure (a := some dx) (wpAny_bind (wpAny_pure (wpAny_bind ?_)))
  refine wpAny_nsSet1 (s := { s with toks := s.toks + 1 }) hn fun h' hn2 hs2 => ?_
  obtain ⟨oD, esD, epD, hoD, hdD, hcD⟩ := hn2.count (PySem.Within.cons name v hw)
  refine wpAny_bind (wpAny_lookBehind hoD (by rw [hdD]; exact pastItsLine_dict (Nat.le_trans hcD (by rw [List.length_cons]; omega))) ?_)
  exact wpAny_pure (h _ _ hn2 hs2)
/-- a dict of its own for x -/
theorem own_dict {h : Heap} {x : Addr} {cl : Value} {vs : Array Value} (hx : h.get? x = some { cls := cl, data := .fields vs }) :
    ((h.push { cls := .type "dict", data := .dict #[] }).update x fun o => { cls := o.cls, dict := some h.objs.size, data := o.data, slots := o.slots }).Ns h.objs.size (fun _ => none) ∧
    ((h.push { cls := .type "dict", data := .dict #[] }).update x fun o => { cls := o.cls, dict := some h.objs.size, data := o.data, slots := o.slots }).get? x = some { cls := cl, dict := some h.objs.size, data := .fields vs } ∧
    ∀ b o, b ≠ x → h.get? b = some o → ((h.push { cls := .type "dict", data := .dict #[] }).update x fun o => { cls := o.cls, dict := some h.objs.size, data := o.data, slots := o.slots }).get? b = some o := by
  have ne := Nat.ne_of_lt (Heap.lt_size hx)
  exact ⟨⟨_, #[], _, (Heap.get?_update_ne _ _ _ _ ne.symm).trans (Heap.get?_push_size _ rfl), rfl, fun _ z => absurd z (by simp), fun _ => rfl⟩, Heap.get?_update_self _ (Heap.get?_push_of_some _ hx) rfl,
    fun b o n e => (Heap.get?_update_ne _ _ _ _ n).trans (Heap.get?_push_of_some _ e)⟩
theorem xs_new {vs : Array Value} {Q : Unit → Shared → Prop} (X : K.In s.heap) (hx : s.heap.get? x = some { cls := .ref C, data := .fields vs }) (c : XCls K C) (n : findIn K (.ref C) name = some none)
    (h : ∀ h' tk, h'.Ns1 s.heap.objs.size (fun y => if y = name then some v else none) → h'.get? x = some { cls := .ref C, dict := some s.heap.objs.size, data := .fields vs } → (∀ b o, b ≠ x → s.heap.get? b = some o → h'.get? b = some o) → Q () { s with heap := h', toks := tk }) :
    wpAny (model prog w) A (setAttr (.ref x) name v) Q E s := by
  have J : InstAt s.heap x { cls := .ref C, data := .fields vs } C none := ⟨hx, rfl, rfl, trivial⟩
  refine set_plain X J c.sa (xs_open (s := { s with toks := s.toks + 1 }) X J c n ?_)
  obtain ⟨cd, D, hc, hd', hm⟩ := exM_of c.m
  refine wpAny_bind (wpAny_pure (wpAny_bind (wpAny_bind (wpAny_loadPart hx (wpAny_bind (PySem.W.Looks.here (s := { s with toks := s.toks + 1 }) (PySem.W.looks_clsIn X hc) ?_))))))
  rw [hd']
  have nd := own_dict (h := s.heap) hx
  refine wpAny_bind (wpAny_alloc' (wpAny_bind (wpAny_update' (Heap.get?_push_of_some _ hx) (wpAny_pure (a := some s.heap.objs.size) ?_))))
  revert nd
  generalize (s.heap.push { cls := .type "dict", data := .dict #[] }).update x (fun o => { cls := o.cls, dict := some s.heap.objs.size, data := o.data, slots := o.slots }) = g
  rintro ⟨n1, n2, n3⟩
  refine (show wpAny _ _ (newKeyGuard _ _ _ >>= _) _ _ _ from wpAny_bind (wpAny_pure (wpAny_bind (wpAny_nsSet1 (Heap.Ns1.of_empty n1) fun h' m b => ?_))))
  obtain ⟨_, _, _, o1, o2, o3⟩ := m.count (PySem.Within.cons name v PySem.Within.nil)
  have few : [name].length ≤ sizeLine := by rw [List.length_singleton, sizeLine_eq]; omega
  exact wpAny_bind (wpAny_lookBehind o1 (by rw [o2]; exact pastItsLine_dict (Nat.le_trans o3 (Nat.le_succ_of_le few))) (wpAny_pure (h h' _ m ((b.2 x (Nat.ne_of_lt (Heap.lt_size hx))).trans n2) fun c o hc e => (b.2 c (Nat.ne_of_lt (Heap.lt_size e))).trans (n3 c o hc e))))
theorem xg_call {tk : Tok} {vs : Array Value} {mA : Str → Option Value} {R : Result → Shared → Prop} (X : K.In s.heap) (hx : s.heap.get? x = some ox) (hcl : ox.cls = .ref C) (hdd : ox.dict = some dx) (hdt : ox.data = .fields vs) (hn : s.heap.Ns1 dx mA) (c : XCls K C) (n : findIn K (.ref C) name = some none) (hv : mA name = some v)
    (h : R (.ok (.ret v)) s) : codeAny (model prog w) A (.call (.builtin "BaseException.__getattribute__") ⟨[.ref x, .str name tk], []⟩) R s := by
  obtain ⟨hh, g, d, t, os⟩ := s
  have hc := c.c
  unfold exC at hc
  simp only [Bool.and_eq_true, beq_iff_eq] at hc
  obtain ⟨⟨⟨⟨⟨⟨⟨hga, hk⟩, hb⟩, hdct⟩, ha⟩, hn'⟩, ht⟩, hm⟩ := hc
  obtain ⟨od, hod, hl⟩ := lookIn_ns hn
  have J : InstAt hh x ox C (some od) := ⟨hx, hcl, by unfold notCls; rw [hdt], by rw [hdd]; exact hod⟩
  have L0 : Looks (model prog w) hh (typeOf (.ref x)) (.ref C) := J.type
  have LB := looks_mroIn (M := model prog w) X hb
  have LF : Looks (model prog w) hh (find (.ref x) (.ref C) name) (.value v) := looks_find X J (findObj_own hdct n rfl (by rw [hl, hv]))
  have hk : builtinKind "BaseException.__getattribute__" = some .slot := by decide +kernel
  have hsp : splitId "BaseException.__getattribute__" = some ("BaseException", "__getattribute__") := by decide +kernel
  have har := F.args_bexc_ga (.ref x) (.str name tk)
  refine codeAny_call_builtin PySem.F.excAttr_ValueError.ga.plain F.entry_bexc_ga ?_
  simp only [checkBuiltinCall, hk, hsp]
  refine wpAny_bind ?_
  unfold isInstance
  repeat lk
  exact h
theorem xg_attr {expr : Bool} {vs : Array Value} {mA : Str → Option Value} {Q : Value → Shared → Prop} (X : K.In s.heap) (hx : s.heap.get? x = some ox) (hcl : ox.cls = .ref C) (hdd : ox.dict = some dx) (hdt : ox.data = .fields vs) (hn : s.heap.Ns1 dx mA) (c : XCls K C) (n : findIn K (.ref C) name = some none) (hv : mA name = some v) (hv' : handedIn v = true)
    (q : Q v { s with toks := s.toks + 1 }) : wpAny (model prog w) A (getAttr (.ref x) name expr) Q E s := by
  obtain ⟨hh, g, d, t, os⟩ := s
  have hc := c.c
  unfold exC at hc
  simp only [Bool.and_eq_true, beq_iff_eq] at hc
  obtain ⟨⟨⟨⟨⟨⟨⟨hga, hk⟩, hb⟩, hdct⟩, ha⟩, hn'⟩, ht⟩, hm⟩ := hc
  have L0 : Looks (model prog w) hh (typeOf (.ref x)) (.ref C) := isOf_ty ⟨ox, hx, hcl⟩
  have L1 := looks_findIn (M := model prog w) X hga
  have L2 := looks_findIn (M := model prog w) X hk
  have fb := PySem.F.excAttr_ValueError.ga.bind (.ref x)
  unfold getAttr getAttrBy
  refine wpAny_bind (wpAny_mkText (wpAny_holding (wpAny_bind (L0.at (wpAny_bind (L1.at ?_))))))
  show wpAny _ _ (getAttrByItsOwn (.ref x) _ (.ref C) (.builtin "BaseException.__getattribute__") true expr) _ _ _
  unfold getAttrByItsOwn
  refine wpAny_bind (m := hookBefore (.ref C)) (L2.at ?_)
  have ex : (expr && onTheHeap (Value.builtin "BaseException.__getattribute__")) = false := by cases expr <;> rfl
  unfold callGetattribute
  rw [ex]
  refine wpAny_bind (wpAny_attempt (wpAny_holding (wpAny_bind (wpAny_of_eq fb (wpAny_call (xg_call (s := ⟨hh, g, d, t + 1, os⟩) X hx hcl hdd hdt hn c n hv ?_))))))
  exact handed_on hv' q
end
theorem ns_some_of {K : PySem.W.Frag} {h : Heap} {N : Addr} {mg : Str → Option Value} {n : Str} {v : Value} (X : K.In h) (G : h.Ns N mg) (e : PySem.W.nsIn K N n = some (some v)) : mg n = some v := by
  obtain ⟨o, es, ep, ho, hd, _, hf⟩ := G
  unfold PySem.W.nsIn at e
  split at e
  · rename_i c d es' n' sl q
    have := X _ _ q
    rw [ho] at this
    cases this
    cases hd
    split at e
    · rename_i he
      rw [← hf]
      unfold nsFind findBy
      rw [← Array.find?_toList, he]
      exact Option.some.inj e
    · split at e <;> cases e
  · cases e
/-- what the fragment must tell of a class of exceptions with an own __init__ -/
def exI (K : PySem.W.Frag) (C f : Addr) : Bool := PySem.W.isFn K (.ref f) && match K.lookup C with
  | some ⟨.type "type", _, .cls cd, sl⟩ => (match cd.mro, sl.toList with
    | [.ref C', .ref D, .type "ValueError", .type "Exception", .type "BaseException", .type "object"], [_, _, _, _, some (.builtin "ValueError.__new__"), _] => C' == C && !cd.hasDel && PySem.W.nsOkIn K cd.ns && PySem.W.nsIn K cd.ns "__init__" == some (some (.ref f)) && (match K.lookup D with
      | some ⟨_, _, .cls cd2, _⟩ => noInit K cd2.ns
      | _ => false)
    | _, _ => false)
  | _ => false
theorem exI_obj {K : PySem.W.Frag} {h : Heap} {C f : Addr} (X : K.In h) (e : exI K C f = true) : ∃ nm qn N bs D hdct sn sub ab col dd k0 k1 k2 k3 k5 mN,
    h.get? C = some (excClassObj nm qn C N bs (.ref D :: veB) hdct sn sub ab col dd k0 k1 k2 k3 k5 "ValueError.__new__") ∧ h.Ns N mN ∧ mN "__init__" = some (.ref f) ∧ OwnTail h veB (.ref D :: veB) := by
  unfold exI at e
  rw [Bool.and_eq_true] at e
  obtain ⟨_, e⟩ := e
  split at e
  · rename_i dd cd sl ho
    split at e
    · rename_i C' D k0 k1 k2 k3 k5 hm hs
      simp only [Bool.and_eq_true, beq_iff_eq, Bool.not_eq_true'] at e
      obtain ⟨⟨⟨⟨rfl, hdel⟩, hN⟩, hI⟩, e4⟩ := e
      obtain ⟨nm, bs, mro, ns, qn, hd, sn, sub, ab, col, del⟩ := cd
      dsimp only at hm hdel hN hI
      subst hm hdel
      have hsl : sl = #[k0, k1, k2, k3, some (.builtin "ValueError.__new__"), k5] := by
        obtain ⟨l⟩ := sl
        simp only at hs
        rw [hs]
      subst hsl
      split at e4
      · rename_i hD
        obtain ⟨mD, d1, d2⟩ := noInit_ns X e4
        exact ⟨nm, qn, ns, bs, D, hd, sn, sub, ab, col, dd, k0, k1, k2, k3, k5, h.nsMap ns, X _ _ ho, .of_isNs (PySem.W.isNs_of_in X hN), ns_some_of X (.of_isNs (PySem.W.isNs_of_in X hN)) hI, .own (X _ _ hD) d1 d2 .base⟩
      · cases e4
    · cases e
  · cases e
section
variable {prog : Program} {w : World} {A : Around} {E : Value → Shared → Prop} {h : Heap} {g : Array GenState} {d : Drawn} {t : Nat} {os : OsState}
variable {nm q : Str} {C N : Addr} {bs bm bmB : List Value} {hdct : Bool} {sn : List Str} {sub : List Value} {ab : Bool} {col : Option Bool} {dd : Option Addr} {k0 k1 k2 k3 k5 : Option Value} {B Bn newId nid initId inN : String} {bmN : List Value}
/-- the heap with an exception made -/
abbrev exPush (h : Heap) (C : Addr) (rest : List Value) : Heap := (h.push { cls := .type "tuple", data := .seq rest.toArray }).push { cls := .ref C, data := .fields #[.ref h.objs.size, .none, .none, .none, .bool false, .none] }
theorem exPush_up {rest : List Value} : ∀ b o, h.get? b = some o → (exPush h C rest).get? b = some o := fun _ _ e => Heap.get?_push_of_some _ (Heap.get?_push_of_some _ e)
theorem exPush_at {rest : List Value} : (exPush h C rest).get? (h.objs.size + 1) = some ⟨.ref C, none, .fields #[.ref h.objs.size, .none, .none, .none, .bool false, .none], #[]⟩ := by
  have e := Heap.get?_push_size (h.push { cls := .type "tuple", data := .seq rest.toArray }) (o := ⟨.ref C, none, .fields #[.ref h.objs.size, .none, .none, .none, .bool false, .none], #[]⟩) rfl
  rw [Heap.size_push] at e
  exact e
theorem xi_type_call (Fn : ExcBaseFacts Bn newId inN bmN) (hBn : bmB.contains (.type Bn) = true) (F : ExcBaseFacts B nid initId bmB) (T : OwnTail h bmB bm) {rest : List Value} {mN : Str → Option Value} {oI : Obj} {fI : Addr} {Q : Fin → Shared → Prop}
    (hC : h.get? C = some (excClassObj nm q C N bs bm hdct sn sub ab col dd k0 k1 k2 k3 k5 newId)) (hn : h.Ns N mN) (hi : mN "__init__" = some (.ref fI)) (hfI : h.get? fI = some oI) (hfc : oI.cls = .type "function")
    (hq : wpAny (model prog w) A (call (.ref fI) (.ref (h.objs.size + 1) :: rest)) (fun r s' => r = .none ∧ Q (.done (.ret (.ref (h.objs.size + 1)))) s') E ⟨exPush h C rest, g, d, t, os⟩) (hrest : rest.length ≤ sizeLine) :
    wpAny (model prog w) A (Builtin.«type.__call__» ⟨.ref C :: rest, []⟩) Q E ⟨h, g, d, t, os⟩ := by
  -- the object is made: the base's __new__
  repeat (first | (with_reducible refine wpAny_madeBy_exc hC ?_) | (with_reducible refine wpAny_loadPart_at hC ?_) | wp_step)
  refine codeAny_call_builtin_code (Code.quiet_builtin _ Fn.quiet) (wpAny_check_new_subU Fn hBn T hC (codeAny_exc_new_subU Fn hBn F T hC ?_ hrest))
  have up := exPush_up (h := h) (C := C) (rest := rest)
  have new := exPush_at (h := h) (C := C) (rest := rest)
  have isC : (Value.ref C :: bm).contains (.ref C) = true := List.contains_iff_mem.mpr List.mem_cons_self
  have ns : (exPush h C rest).Ns N mN := by
    obtain ⟨o, es, ep, e, r⟩ := hn
    exact ⟨o, es, ep, up _ _ e, r⟩
  -- it is of the class: its __init__ is looked up, bound and called
  refine (show wpAny _ _ (isInstance (.ref (h.objs.size + 1)) (.ref C) >>= _) _ _ ⟨exPush h C rest, g, d, t, os⟩ from wpAny_bind ?_)
  delta isInstance
  repeat (first | (with_reducible refine wpAny_loadPart_at new ?_) | ((with_reducible refine wpAny_isSubtype_exc (up _ _ hC) ?_); rw [isC]) | wp_step)
  refine (wpAny_typeLookup_tail (up _ _ hC) ns (T.keeps up) F.mroIs F.init.lookup ?_)
  rw [hi]
  refine wpAny_holding (wpAny_bind (m := bindSpecial _ _) (wpAny_bind (wpAny_typeOf (T := "function") ⟨oI, up _ _ hfI, hfc⟩ ?_)))
  rw [if_pos (by decide)]
  refine wpAny_pure (wpAny_bind (wpAny_mono hq ?_ fun _ _ => id))
  rintro r s' ⟨rfl, hQ⟩
  wp_walk
  exact hQ
theorem xi_call {K : PySem.W.Frag} {rest : List Value} {fI : Addr} {Q : Value → Shared → Prop} (X : K.In h) (he : exI K C fI = true)
    (hq : wpAny (model prog w) (A.under (.builtin "type.__call__" ⟨.ref C :: rest, []⟩)) (call (.ref fI) (.ref (h.objs.size + 1) :: rest)) (fun r s' => r = .none ∧ Q (.ref (h.objs.size + 1)) s') E ⟨exPush h C rest, g, d, t, os⟩) (hrest : rest.length ≤ sizeLine) :
    wpAny (model prog w) A (call (.ref C) rest) Q E ⟨h, g, d, t, os⟩ := by
  obtain ⟨nm, qn, N', bs, D', hdct, sn, sub, ab, col, dd, k0, k1, k2, k3, k5, mN, hC, hn, hi, T⟩ := exI_obj X he
  unfold exI at he
  rw [Bool.and_eq_true] at he
  have hf := he.1
  unfold PySem.W.isFn PySem.W.typeIn at hf
  have f1 := tc_lookup
  have f2 := tc_bind (.ref C)
  have isT : Shared.TypeIs ⟨h, g, d, t, os⟩ (.ref C) "type" := ⟨_, hC, rfl⟩
  have hfo : ∃ oI, h.get? fI = some oI ∧ oI.cls = .type "function" := by
    cases q : K.lookup fI with
    | none => simp [q] at hf
    | some o =>
      simp [q] at hf
      exact ⟨o, X _ _ q, hf⟩
  obtain ⟨oI, hfI, hfc⟩ := hfo
  refine wpAny_call (codeAny_of_tree (show wpAny _ _ (callAny (.ref C) ⟨rest, []⟩) _ _ _ from ?_))
  repeat (any_goals (first | (with_reducible refine wpAny_loadPart_at hC ?_) | assumption | wp_step))
  refine ⟨rfl, codeAny_call_builtin_at (Code.quiet_builtin _ (by decide +kernel)) entry_typeCall (wpAny_check_type_call_sub hC (xi_type_call PySem.F.excBase_ValueError (by decide +kernel) PySem.F.excBase_ValueError T hC hn hi hfI hfc hq hrest))⟩
end
end L2

set_option linter.all false
set_option maxRecDepth 100000
set_option maxHeartbeats 1000000
namespace L2
open PySem PySem.Spec PyProof.Rows
section
variable {M : Model} {A : Around} {E : Value → Shared → Prop} {env : Env} {nm q : Str} {C N : Addr} {bs bm : List Value} {hdct : Bool} {sn : List Str} {sub : List Value} {ab : Bool} {col : Option Bool} {dd : Option Addr} {k0 k1 k2 k3 k5 : Option Value} {newId : String}
theorem xi_raise0 {s : Shared} {x : Sem Value} {Q : Flow → Shared → Prop} (hh : A.handled = none)
    (h : wpAny M A x (fun v s₁ => ∃ nm q N bs bm hdct sn sub ab col dd k0 k1 k2 k3 k5 newId e t de, v = .ref e ∧ bm.contains (.type "BaseException") = true ∧ s₁.heap.get? C = some (excClassObj nm q C N bs bm hdct sn sub ab col dd k0 k1 k2 k3 k5 newId) ∧
      s₁.heap.get? e = some { cls := .ref C, dict := de, data := .fields #[.ref t, .none, .none, .none, .bool false, .none] } ∧ E (.ref e) s₁) E s) :
    wpAny M A (raiseStmt env (some x) none) Q E s := by
  unfold raiseStmt
  refine wpAny_bind (wpAny_mono h (fun v s₁ h₁ => ?_) fun _ _ x => x)
  obtain ⟨nm, q, N, bs, bm, hdct, sn, sub, ab, col, dd, k0, k1, k2, k3, k5, newId, e, t, de, rfl, hbase, hC, he, hE⟩ := h₁
  obtain ⟨_, _, _, _, _⟩ := s₁
  repeat (first | (with_reducible refine wpAny_loadPart_at hC ?_) | (with_reducible refine wpAny_loadPart_at he ?_) | ((with_reducible refine wpAny_isSubtype_exc hC ?_); rw [show (Value.ref C :: bm).contains (.type "BaseException") = true from (List.contains_cons ..).trans (by rw [hbase]; exact Bool.or_true _)]) | wp_step)
  exact (wpAny_raiseNew_none hh hE)
end
/-- raise of one that was made and given fields -/
theorem xi_raiseStmt {prog : Program} {w : World} {A : Around} {E : Value → Shared → Prop} {s : Shared} {env : Env} {K : PySem.W.Frag} {C f : Addr} {x : Sem Value} {Q : Flow → Shared → Prop} (hI : exI K C f = true) (hh : A.handled = none)
    (h : wpAny (model prog w) A x (fun v s₁ => ∃ e t dd, v = .ref e ∧ K.In s₁.heap ∧ exO e (.ref C) dd t s₁.heap ∧ E (.ref e) s₁) E s) :
    wpAny (model prog w) A (raiseStmt env (some x) none) Q E s := by
  refine xi_raise0 (C := C) hh (wpAny_mono h (fun v s₁ h₁ => ?_) fun _ _ z => z)
  obtain ⟨e, t, dd, rfl, X, he, hE⟩ := h₁
  obtain ⟨nm, qn, N', bs, D', hdct, sn, sub, ab, col, dd', k0, k1, k2, k3, k5, mN, hC, hn, hi, T⟩ := exI_obj X hI
  exact ⟨_, _, _, _, _, _, _, _, _, _, _, _, _, _, _, _, _, e, t, dd, rfl, T.hasType (X := "BaseException") PySem.F.excBase_ValueError.hasBase, hC, he, hE⟩
/-- an exception behind a call, with its dict -/
def CXD (P : Program) (w : World) : CXT := fun outer H s E e s' =>
  ∃ (ea t : Addr) (H1 : Hp) (cls : Value) (B : Heap) (dd : Option Addr), e = .ref ea ∧ s'.os = s.os ∧ AllBare s'.gens ∧ E cls dd H1 ∧ (∀ dx, dd = some dx → ∃ o, s'.heap.get? ea = some o ∧ o.dict = some dx) ∧ Heap.FlyingW B outer ea cls (.ref t) s'.heap ∧ Lay P w outer H H1 s ea B s'.heap
theorem passD0 {P : Program} {w : World} {X : Cx} : Passes (CXD P w) X E0 := fun _ _ _ _ _ _ _ ⟨_, _, _, _, _, _, _, _, _, e, _⟩ => e.elim
def del (H : Hp) (a : Addr) : Hp := fun b => if b = a then none else H b
theorem del_self {H : Hp} {a : Addr} : del H a a = none := if_pos rfl
theorem del_ne {H : Hp} {a b : Addr} (h : b ≠ a) : del H a b = H b := if_neg h
section
variable {P : Program} {w : World} {K : PySem.W.Frag} {mg : Str → Option Value} {base : Heap} {N : List Str} {qual : Str} {scope : Scope} {f : Addr} {cd : Value} {A : Around} {outer : List Env} {s : Shared} {H : Hp} {E : XK}
/-- one that is tracked flies off -/
theorem flies {pins : List (Addr × Obj)} {σ : St} {H1 : Hp} {s1 : Shared} {e t : Addr} {cls : Value} {dd : Option Addr} (I : Inv (cxOf (CXD P w) P w K mg base N qual scope f cd A outer s H E) pins σ H1 s1) (he : H1 e = some (.ext (exO e cls dd t))) (hnew : s.heap.get? e = none) (hE : E cls dd (del H1 e)) :
    (cxOf (CXD P w) P w K mg base N qual scope f cd A outer s H E).xe (.ref e) s1 := by
  have hx : exO e cls dd t s1.heap := (I.hok e _ he).1
  have fr : ∀ b ∈ frs (envOfC qual scope s.heap.objs.size f cd :: outer), H1 b = none := I.stkFree
  have hin : ∀ env ∈ (envOfC qual scope s.heap.objs.size f cd :: outer), ∀ b, env.frame = some b → b ∈ e :: frs (envOfC qual scope s.heap.objs.size f cd :: outer) := fun env he b hb => List.mem_cons_of_mem _ (List.mem_filterMap.mpr ⟨env, he, hb⟩)
  have nf : ∀ {b : Addr} {o : Obj}, s.heap.get? b = some o → b ∉ frs outer → b ∉ e :: frs (envOfC qual scope s.heap.objs.size f cd :: outer) := fun {b o} q n z => by
    rcases List.mem_cons.mp z with z | z
    · rw [z, hnew] at q; cases q
    · have z' : b ∈ s.heap.objs.size :: frs outer := z
      rcases List.mem_cons.mp z' with z | z
      · exact absurd (Heap.lt_size q) (by rw [z]; exact Nat.lt_irrefl _)
      · exact n z
  refine wpAny_mono (calm_and (calm_leaving _ _) (wpAny_leaving_firstW (Q := fun _ s' => ∃ h', s' = { s1 with heap := h' } ∧ Heap.LeftW (PySem.W.hideAll s1.heap (e :: frs (envOfC qual scope s.heap.objs.size f cd :: outer))) (envOfC qual scope s.heap.objs.size f cd :: outer) e cls (.ref t) s1.heap h') (A := (cxOf (CXD P w) P w K mg base N qual scope f cd A outer s H E).A) (a0 := .ref t) I.ok.frames (PySem.W.funFrames_hide I.stack hin) rfl hx (fun b o q => PySem.W.of_hideAll _ q) (PySem.W.hideAll_none _ (List.mem_cons_self ..)) rfl rfl rfl fun h' hL => ⟨h', rfl, hL⟩)) ?_ fun _ _ z => z.1
  rintro _ _ ⟨⟨h', rfl, k1, ⟨_, _, k2⟩, k3, k4⟩, dk⟩
  refine ⟨e, t, del H1 e, cls, _, dd, rfl, I.os, I.bare, hE, fun dx z => ?_, ⟨k1, PySem.W.hideAll_none _ (List.mem_cons_self ..), k2, k3⟩, ⟨fun a o q => ?_, del_self, fun b o q n hb => ?_, fun b o q n hb => ?_, fun b o q hb => ?_, fun b o q n => ?_, fun b xs q => ?_, fun b o u q => ?_, fun b ps q => ?_⟩⟩
  · obtain ⟨o', h1, h2⟩ := dk e _ hx
    exact ⟨o', h1, h2.trans z⟩
  · have hae : a ≠ e := fun z => by rw [z, del_self] at q; cases q
    rw [del_ne hae] at q
    refine (I.hok a o q).stay (fun b u hb z => PySem.W.hideAll_get _ z fun hm => ?_) (fun b z => ?_) fun b xs z => ?_
    · rcases List.mem_cons.mp hm with hm | hm
      · subst hm
        rcases hb with rfl | hb
        · exact hae rfl
        · rw [he] at hb; cases hb
      · have := fr b hm
        rcases hb with rfl | hb
        · rw [q] at this; cases this
        · rw [hb] at this; cases this
    · rw [del_ne (fun y => by rw [y, he] at z; cases z)]; exact z
    · rw [del_ne (fun y => by rw [y, he] at z; cases z)]; exact z
  · exact PySem.W.hideAll_get _ (I.base.keep b o q n hb List.not_mem_nil) (nf q hb)
  · obtain ⟨sl, z⟩ := I.base.slot b o q n hb List.not_mem_nil
    obtain ⟨_, o', ho', hd'⟩ := I.ok.funs.mem hb
    rw [show (cxOf (CXD P w) P w K mg base N qual scope f cd A outer s H E).s₀.heap.get? b = some o from q] at ho'
    cases ho'
    obtain ⟨sl2, z2⟩ := k4 b _ z hd'
    exact ⟨sl2, z2⟩
  · obtain ⟨o', z⟩ := I.base.there b o q List.not_mem_nil
    exact ⟨o', PySem.W.hideAll_get _ z (nf q hb)⟩
  · have := I.base.free b o q n (by exact List.not_mem_nil)
    rw [del_ne (fun y => by rw [y, hnew] at q; cases q)]; exact this
  · have := I.base.tups b xs q
    rw [del_ne (fun y => by rw [y, he] at this; cases this)]; exact this
  · have := I.base.frzs b o u q
    rw [del_ne (fun y => by rw [y, he] at this; cases this)]; exact this
  · obtain ⟨m, this⟩ := I.base.tbls b ps q
    exact ⟨m, by rw [del_ne (fun y => by rw [y, he] at this; cases this)]; exact this⟩
end
end L2

set_option linter.all false
set_option maxRecDepth 100000
set_option maxHeartbeats 1000000
namespace L2
open PySem PySem.Spec PyProof.Rows
/-! ### stores and readings of an exception's fields -/
theorem exO.ok {P : Program} {w : World} {H : Hp} {h : Heap} {a t : Addr} {cls : Value} {dd : Option Addr} (x : exO a cls dd t h) : ObjOk P w H h a (.ext (exO a cls dd t)) := ⟨x, ⟨_, x⟩, fun _ _ p k => k _ p⟩
theorem xdI.ok {P : Program} {w : World} {H : Hp} {h : Heap} {d : Addr} {fs : List (Str × V)} (x : xdI d fs h) : ObjOk P w H h d (.ext (xdI d fs)) := by
  refine ⟨x, ?_, fun h1 h2 ⟨mA, n, r⟩ k => ⟨mA, n.at k, r⟩⟩
  obtain ⟨mA, ⟨o, _, _, e, _⟩, _⟩ := x
  exact ⟨o, e⟩
theorem xdI.within {mA : Str → Option Value} {fs : List (Str × V)} (r : ∀ f, RelO (fs.lookup f) (mA f)) : PySem.Within mA (fs.map (·.1)) := fun y hy => by
  have := r y
  cases q : fs.lookup y with
  | none => rw [q] at this; exact absurd (RelO.none_of this) hy
  | some v =>
    obtain ⟨l1, l2, e, _⟩ := List.lookup_eq_some_iff.mp q
    rw [e]
    simp
def sFldE (K : PySem.W.Frag) (ta tv : TE) (f : Str) : TS := fun D σ H => tv σ H fun y H1 => ta σ H1 fun x H2 => ∃ a C t, x = .ref a ∧ XCls K C ∧ NoAttr K C f ∧
  ((H2 a = some (.ext (exO a (.ref C) none t)) ∧ ∀ dx, H2 dx = none → dx ≠ a → D.nx σ (upd (upd H2 a (.ext (exO a (.ref C) (some dx) t))) dx (.ext (xdI dx [(f, y)])))) ∨
   ∃ dx fs, H2 a = some (.ext (exO a (.ref C) (some dx) t)) ∧ dx ≠ a ∧ H2 dx = some (.ext (xdI dx fs)) ∧ fs.length < 1000 ∧ D.nx σ (upd H2 dx (.ext (xdI dx (putF f y fs)))))
def tFldE (K : PySem.W.Frag) (ta : TE) (f : Str) : TE := fun σ H Q => ta σ H fun x H1 => ∃ a C dx fs v φ, x = .ref a ∧ H1 a = some (.ext φ) ∧ (∀ h, φ h → exA a (.ref C) (some dx) h) ∧ H1 dx = some (.ext (xdI dx fs)) ∧ XCls K C ∧ NoAttr K C f ∧ fs.lookup f = some v ∧ Q v H1
section
variable {X : Cx} {o e value : Expr} {f : Str} {pos pos' tpos : Pos} {ta tv : TE}
theorem pe_fldE (he : PE X e ta) (hb : attributeBase e f X.env (eval e X.env) = eval e X.env) : PE X (.Attribute e f pos) (tFldE X.K ta f) := by
  intro pins s σ H Q I h
  refine attr_of hb (thn (he pins s σ H _ I h) fun u s1 ⟨x, H1, I1, rx, a, C, dx, fs, v, φ, ex, ea, hφ, ed, c, n, l, q⟩ => ?_)
  subst ex
  obtain rfl : u = Value.ref a := rx
  obtain ⟨ox, vs, h1, h2, h3, h4⟩ := hφ _ (I1.hok a _ ea).1
  obtain ⟨mA, hn, r⟩ := (I1.hok dx _ ed).1
  obtain ⟨u, hu, ru⟩ := RelO.some_of (v := v) (o := mA f) (by rw [← l]; exact r f)
  exact xg_attr I1.kIn h1 h2 h3 h4 hn c n hu (handed_of ru) ⟨v, H1, I1.tok _, ru, q⟩
theorem ps_fldE (ha : PE X o ta) (hv : PE X value tv) (hs : swapsWith value (some (.Attribute o f pos')) pos.line X.env = pure false) : PS X (.Assign [.Attribute o f pos'] value pos) (sFldE X.K ta tv f) := by
  intro pins s σ H D I h
  refine plainObj_wpAny_Assign_Attribute (thn (hv pins s σ H _ I h) fun u s1 ⟨y, H1, I1, ry, q⟩ => thn (ha pins s1 σ H1 _ I1 q) fun ov s2 ⟨x, H2, I2, rx, a, C, t, ex, c, n, q2⟩ => ?_) hs
  subst ex
  obtain rfl : ov = Value.ref a := rx
  rcases q2 with ⟨ea, q2⟩ | ⟨dx, fs, ea, hne, ed, hl, q2⟩
  · have hx : exO a (.ref C) none t s2.heap := (I2.hok a _ ea).1
    have hxs : a ≠ s2.heap.objs.size := Nat.ne_of_lt (Heap.lt_size hx)
    refine xs_new I2.kIn hx c n fun h' tk hn hx' keep => ?_
    have hm : (s2.heap.update a fun o => { cls := o.cls, dict := some s2.heap.objs.size, data := o.data, slots := o.slots }).get? a = some { cls := .ref C, dict := some s2.heap.objs.size, data := .fields #[.ref t, .none, .none, .none, .bool false, .none] } := Heap.get?_update_self _ hx rfl
    have I3 := I2.write (x := a) (e := a) (o := .ext (exO a (.ref C) (some s2.heap.objs.size) t)) (t' := s2.toks) (h' := s2.heap.update a fun o => { cls := o.cls, dict := some s2.heap.objs.size, data := o.data, slots := o.slots }) (by rw [ea]; exact True.intro) (.inl rfl) (fun b u hb z => (Heap.get?_update_ne _ _ _ _ hb).trans z) ⟨_, hm⟩ (exO.ok hm)
    have I4 := I3.laid (a := s2.heap.objs.size) (o := .ext (xdI s2.heap.objs.size [(f, y)])) (h' := h') (t' := tk) (fun b u z => by
      by_cases hb : b = a
      · subst hb
        rw [show (s2.heap.update b fun o => { cls := o.cls, dict := some s2.heap.objs.size, data := o.data, slots := o.slots }).get? b = some u from z] at hm
        rw [hx']; exact hm.symm
      · exact keep b u hb ((Heap.get?_update_ne _ _ _ _ hb).symm.trans z)) (Nat.le_of_eq (by exact Heap.size_update ..)) (xdI.ok ⟨_, hn, fun g => by
        by_cases hg : g = f
        · subst hg
          rw [if_pos rfl]
          simp only [List.lookup, beq_self_eq_true]
          exact ry
        · have hgb : (g == f) = false := beq_eq_false_iff_ne.mpr hg
          simp only [List.lookup, hgb, hg, if_false]
          exact True.intro⟩)
    exact ⟨σ, _, I4, q2 _ (I2.hok.fresh (Nat.le_refl _)) (Ne.symm hxs)⟩
  · have hx : exO a (.ref C) (some dx) t s2.heap := (I2.hok a _ ea).1
    obtain ⟨mA, hn, r⟩ := (I2.hok dx _ ed).1
    refine xs_old I2.kIn hx hn hne c n (xdI.within r) (by rw [List.length_map, sizeLine_eq]; omega) fun h' tk hn' sb => ?_
    have hd : ∃ o, h'.get? dx = some o := let ⟨o, _, _, e', _⟩ := hn'; ⟨o, e'⟩
    refine ⟨σ, _, I2.write (x := dx) (e := dx) (by rw [ed]; exact True.intro) (.inl rfl) (fun b q hb z => (sb.2 b hb).trans z) hd (xdI.ok ⟨_, hn', fun g => ?_⟩), q2⟩
    show RelO ((putF f y fs).lookup g) (if g = f then some u else mA g)
    rw [lookup_putF]
    by_cases q : g = f
    · rw [if_pos q, if_pos q]; exact ry
    · rw [if_neg q, if_neg q]; exact r g
end
/-! ### raise C(..) with an own __init__ -/
def spI (C : Addr) (names : List Str) : Sp := fun vs H Q _ => ∃ a t vs', vs = .ref a :: vs' ∧ H a = some (.ext (exO a (.ref C) none t)) ∧ vs'.length = names.length ∧
  ∀ dx, H dx = none → dx ≠ a → Q .non (upd (upd H a (.ext (exO a (.ref C) (some dx) t))) dx (.ext (xdI dx (names.zip vs'))))
section
variable {P : Program} {w : World} {K : PySem.W.Frag} {mg : Str → Option Value} {base : Heap} {N : List Str} {qual : Str} {scope : Scope} {f : Addr} {cd : Value} {A : Around} {outer : List Env} {s : Shared} {H : Hp} {E : XK}
theorem ps_raiseI {x : Str} {np cpos pos : Pos} {C fI : Addr} {fd : FuncData} {ps names : List Str} {k j : Nat} {e : Expr} {es : List Expr} {ta : TA} (hI : exI K C fI = true) (hkC : PySem.W.keepIn K (.ref C) = true) (hm : mg x = some (.ref C)) (hg : Gl (cxOf (CXD P w) P w K mg base N qual scope f cd A outer s H E) x)
    (F : FnOk P w K mg base CX0 k fI fd ps (spI C names)) (hr : Room j (A.deeper (envOfC qual scope s.heap.objs.size f cd))) (hj : k + 1 ≤ j) (hb : Binds K fd ps []) (ha : PA (cxOf (CXD P w) P w K mg base N qual scope f cd A outer s H E) (e :: es) ta) (hsz : names.length ≤ 1000 := by decide) (hdb : (x == ("__debug__" : Str)) = false := by decide)
    (he : starEach (e :: es) (cxOf (CXD P w) P w K mg base N qual scope f cd A outer s H E).env = (false, eval e (cxOf (CXD P w) P w K mg base N qual scope f cd A outer s H E).env) :: starEach es (cxOf (CXD P w) P w K mg base N qual scope f cd A outer s H E).env := by rfl) (hpl : (backTo cpos (starEach es (cxOf (CXD P w) P w K mg base N qual scope f cd A outer s H E).env)).any (·.1) = false := by rfl) :
    PS (cxOf (CXD P w) P w K mg base N qual scope f cd A outer s H E) (.Raise (some (.Call (.Name x np) (e :: es) [] cpos)) none pos) (fun _ σ H => ta σ H fun vs H1 => vs.length = names.length ∧ ∀ dx, H1 dx = none → E (.ref C) (some dx) (upd H1 dx (.ext (xdI dx (names.zip vs))))) := by
  intro pins s1 σ H1 D I hE
  rw [arm_exec_Raise]
  refine wpAny_bind (wpAny_standAt (xi_raiseStmt hI (I.ok.hd rfl) (wpAny_bind (wpAny_mono (wpAny_Call_Name_kw (ld_glob I hg hm (PySem.W.callWith_K (h₀ := base) I.ok.mod.kin hkC (thn (ha cpos pins s1 σ H1 _ I hE) fun us s2 ⟨vs, H2, I2, r, hlen, q⟩ => ⟨I2.kIn, ?_⟩) he hpl) hdb)) (fun v s₃ h₃ => wpAny_bind (wpAny_standAt (wpAny_pure h₃))) fun _ _ x => x))))
  have hul : us.length = names.length := by rw [← r.length, hlen]
  obtain ⟨hp, g, d, tk, os⟩ := s2
  show wpAny _ _ (call (.ref C) us) _ _ _
  refine xi_call (h := hp) I2.kIn hI ?_ (by rw [hul, sizeLine_eq]; omega)
  have hget : (exPush hp C us).get? (hp.objs.size + 1) = some { cls := .ref C, data := .fields #[.ref hp.objs.size, .none, .none, .none, .bool false, .none] } := by heap_get
  have hx : exO (hp.objs.size + 1) (.ref C) none hp.objs.size (exPush hp C us) := hget
  have I3 : Inv (cxOf (CXD P w) P w K mg base N qual scope f cd A outer s H E) pins σ (upd H2 (hp.objs.size + 1) (.ext (exO (hp.objs.size + 1) (.ref C) none hp.objs.size))) ⟨exPush hp C us, g, d, tk, os⟩ :=
    I2.laid (a := hp.objs.size + 1) (t' := tk) (fun b u z => Heap.get?_push_of_some _ (Heap.get?_push_of_some _ z)) (Nat.le_succ _) (exO.ok hx)
  have fr2 : H2 (hp.objs.size + 1) = none := I2.hok.fresh (Nat.le_succ _)
  have hnew : s.heap.get? (hp.objs.size + 1) = none := by
    cases z : s.heap.get? (hp.objs.size + 1) with
    | none => rfl
    | some o =>
      obtain ⟨o', z'⟩ := I2.base.there _ o z List.not_mem_nil
      exact absurd (Heap.lt_size z') (by show ¬ (hp.objs.size + 1 < hp.objs.size); omega)
  have r2 : Vals (V.ref (hp.objs.size + 1) :: vs) (Value.ref (hp.objs.size + 1) :: us) := .cons rfl r
  have hq : spI C names (V.ref (hp.objs.size + 1) :: vs) (upd H2 (hp.objs.size + 1) (.ext (exO (hp.objs.size + 1) (.ref C) none hp.objs.size))) (fun v H' => v = .non ∧ ∃ dx, H2 dx = none ∧ dx ≠ hp.objs.size + 1 ∧ H' = upd (upd H2 (hp.objs.size + 1) (.ext (exO (hp.objs.size + 1) (.ref C) (some dx) hp.objs.size))) dx (.ext (xdI dx (names.zip vs)))) E0 := by
    refine ⟨_, _, vs, rfl, upd_same, hlen, fun dx h1 h2 => ⟨rfl, dx, ?_, h2, ?_⟩⟩
    · rw [upd_ne h2] at h1; exact h1
    · rw [upd_upd]
  have hl : (Value.ref (hp.objs.size + 1) :: us ++ []).length = ps.length := by
    have e := r2.length
    rw [F.len _ _ _ _ hq] at e
    rw [List.append_nil]; exact e.symm
  have hbd := hb _ (Value.ref (hp.objs.size + 1) :: us) I3.kIn hl
  rw [List.append_nil] at hbd
  refine wpAny_call (codeAny_mono (F.run _ (envOfC qual scope s.heap.objs.size f cd :: outer) _ _ ⟨Value.ref (hp.objs.size + 1) :: us, []⟩ (Value.ref (hp.objs.size + 1) :: us) _ _ E0 ((hr.mono hj).make C us []) (I3.env0.make C us []) hbd r2 hq) fun r s' hq' => ?_)
  cases r with
  | error e => exact pass0 pins σ _ _ e s' I3 hq'
  | ok fl =>
    cases fl with
    | ret u =>
      obtain ⟨v, H', I4, rv, ev, dx, h1, h2, e3⟩ := I3.after hq'
      subst ev e3
      have ee : (upd (upd H2 (hp.objs.size + 1) (.ext (exO (hp.objs.size + 1) (.ref C) (some dx) hp.objs.size))) dx (.ext (xdI dx (names.zip vs)))) (hp.objs.size + 1) = some (.ext (exO (hp.objs.size + 1) (.ref C) (some dx) hp.objs.size)) := by
        rw [upd_ne (Ne.symm h2), upd_same]
      refine ⟨rv, _, _, some dx, rfl, I4.kIn, (I4.hok _ _ ee).1, flies I4 ee hnew ?_⟩
      have e4 : del (upd (upd H2 (hp.objs.size + 1) (.ext (exO (hp.objs.size + 1) (.ref C) (some dx) hp.objs.size))) dx (.ext (xdI dx (names.zip vs)))) (hp.objs.size + 1) = upd H2 dx (.ext (xdI dx (names.zip vs))) := by
        funext b
        by_cases hb : b = hp.objs.size + 1
        · rw [hb, del_self, upd_ne (Ne.symm h2), fr2]
        · rw [del_ne hb]
          by_cases hd : b = dx
          · rw [hd, upd_same, upd_same]
          · rw [upd_ne hd, upd_ne hb, upd_ne hd]
      rw [e4]
      exact q dx h1
    | next => exact False.elim hq'
    | brk => exact False.elim hq'
    | cont => exact False.elim hq'
end
end L2

set_option linter.all false
set_option maxRecDepth 100000
set_option maxHeartbeats 1000000
namespace L2
open PySem PySem.Spec PyProof.Rows
theorem Fun.okD {P : Program} {w : World} {K : PySem.W.Frag} {mg : Str → Option Value} {base : Heap} {x qual : Str} {st : Stmt} {f : Addr} {fd : FuncData} {N ps : List Str} {k : Nat} {sp : Sp} (F : Fun K x qual st f fd) (S : FnScope N ps (defScope st)) (len : ∀ vs H Q E, sp vs H Q E → vs.length = ps.length)
    (hbody : ∀ (cdv : Value) (A : Around) (outer : List Env) (s : Shared) (H : Hp) (vs : List V) (Q : VK) (E : XK), Room k (A.deeper (envOfC qual (defScope st) s.heap.objs.size f cdv)) → sp vs H Q E →
      ∃ t, PSs (cxOf (CXD P w) P w K mg base N qual (defScope st) f cdv A outer s H E) (defBody st) t ∧ t { nx := fun _ H' => Q .non H', rt := Q } (start N vs) H) : FnOk P w K mg base (CXD P w) (k + 1) f fd ps sp := by
  obtain ⟨oc, od, kV, doc, pm, an, cdv, ct, osl, rfl, lk, hcd⟩ := F.ex
  exact fn_of lk hcd S len fun A outer s H vs Q E hr hsp => hbody cdv A outer s H vs Q E hr hsp
/-- what is known of one that was caught -/
def exG (a : Addr) (cls : Value) : Option Addr → Heap → Prop
  | none => isOf a cls
  | some dx => exA a cls (some dx)
theorem exG.of {a : Addr} {cls : Value} {dd : Option Addr} {h : Heap} (x : exG a cls dd h) : isOf a cls h := by
  cases dd with
  | none => exact x
  | some dx => exact exA.of x
theorem exG_of {B : Heap} {l : List Env} {ea : Addr} {cls a0 : Value} {dd : Option Addr} {h : Heap} (fl : Heap.FlyingW B l ea cls a0 h) (hd : ∀ dx, dd = some dx → ∃ o, h.get? ea = some o ∧ o.dict = some dx) : exG ea cls dd h := by
  obtain ⟨ob, vs, hob, hoc, hod, _⟩ := fl.first
  cases dd with
  | none => exact ⟨ob, hob, hoc⟩
  | some dx =>
    obtain ⟨o, h1, h2⟩ := hd dx rfl
    rw [hob] at h1
    cases h1
    exact ⟨ob, vs, hob, hoc, h2, hod⟩
theorem exG.ok {P : Program} {w : World} {H : Hp} {h : Heap} {a : Addr} {cls : Value} {dd : Option Addr} (x : exG a cls dd h) : ObjOk P w H h a (.ext (exG a cls dd)) := by
  refine ⟨x, let ⟨o, e, _⟩ := x.of; ⟨o, e⟩, fun h1 h2 p k => ?_⟩
  cases dd with
  | none =>
    obtain ⟨o, e1, e2⟩ := (show isOf a cls h1 from p)
    exact (show isOf a cls h2 from ⟨o, k o e1, e2⟩)
  | some dx =>
    obtain ⟨o, vs, e1, e2⟩ := (show exA a cls (some dx) h1 from p)
    exact (show exA a cls (some dx) h2 from ⟨o, vs, k o e1, e2⟩)
theorem Inv.exg {X : Cx} {pins : List (Addr × Obj)} {σ : St} {H : Hp} {s : Shared} {a : Addr} {cls : Value} {dd : Option Addr} (I : Inv X pins σ (upd H a (.ext (isOf a cls))) s) (x : exG a cls dd s.heap) : Inv X pins σ (upd H a (.ext (exG a cls dd))) s := by
  have := I.write (x := a) (e := a) (o := .ext (exG a cls dd)) (h' := s.heap) (t' := s.toks) (by rw [upd_same]; exact True.intro) (.inl rfl) (fun _ _ _ z => z) (let ⟨o, e, _⟩ := x.of; ⟨o, e⟩) x.ok
  rw [upd_upd] at this
  exact this
section
variable {X : Cx} {pins : List (Addr × Obj)} {σ : St} {H H1 : Hp} {s s' : Shared} {h : Heap} {ea : Addr}
def tTryD (j : Nat) (K : PySem.W.Frag) (C : Addr) (sp : Sp) (ta : TA) (ts : TS) : TS := fun D σ H => ta σ H fun vs H1 => sp vs H1 (fun _ H2 => D.nx σ H2)
  (fun cls dd H2 => PySem.W.exmOne K cls (.ref C) = some true ∧ ∀ ea, H2 ea = none → ts { nx := fun σ' H' => D.nx (σ'.set j none) H', rt := fun v H' => D.rt v H', bk := fun _ _ => False, ct := fun _ _ => False } (σ.set j (some (.ref ea))) (upd H2 ea (.ext (exG ea cls dd))))
theorem st_tryD {j : Nat} {K : PySem.W.Frag} {C : Addr} {sp : Sp} {ta : TA} {ts rest : TS} {D : Ends} {vs : List V} (ha : PuA ta σ H vs)
    (h : sp vs H (fun _ H2 => rest D σ H2) (fun cls dd H2 => PySem.W.exmOne K cls (.ref C) = some true ∧ ∀ ea, H2 ea = none → ts { nx := fun σ' H' => rest D (σ'.set j none) H', rt := fun v H' => D.rt v H', bk := fun _ _ => False, ct := fun _ _ => False } (σ.set j (some (.ref ea))) (upd H2 ea (.ext (exG ea cls dd))))) : tSeq (tTryD j K C sp ta ts) rest D σ H := ha _ h
theorem ps_tryD {j k : Nat} {fn cn n : Str} {pf pc pa np hp pos : Pos} {f C : Addr} {fd : FuncData} {ps : List Str} {sp : Sp} {e : Expr} {es : List Expr} {ta : TA} {ts : TS} {b₀ : Stmt} {suite : List Stmt}
    (hxe : X.xe = fun _ _ => False) (hstk : X.stack = X.env :: X.outer) (hfr : X.env.frame = some X.env.locals) (hcalm : X.calm = true)
    (G : FnOk X.prog X.w X.K X.mg X.base (CXD X.prog X.w) k f fd ps sp) (hr : Room k X.A) (hgf : Gl X fn) (hmf : X.mg fn = some (.ref f)) (hkf : PySem.W.keepIn X.K (.ref f) = true) (hb : Binds X.K fd ps []) (ha : PA X (e :: es) ta)
    (hN : X.N.Nodup) (hj : X.N[j]? = some n) (hn : X.env.scope.names.lookup n = some .local)
    (hgC : Gl X cn) (hmC : X.mg cn = some (.ref C)) (hs : ∀ ea, PSs (X.suite ea) (b₀ :: suite) ts)
    (hsw : swapsWith (.Call (.Name fn pf) (e :: es) [] pc) none pa.line X.env = pure false := by rfl)
    (hdb : (fn == ("__debug__" : Str)) = false := by decide) (hdc : (cn == ("__debug__" : Str)) = false := by decide) (he : starEach (e :: es) X.env = (false, eval e X.env) :: starEach es X.env := by rfl) (hpl : (backTo pc (starEach es X.env)).any (·.1) = false := by rfl) :
    PS X (.Try [.Expr (.Call (.Name fn pf) (e :: es) [] pc) pa] [.ExceptHandler (some (.Name cn np)) (some n) (b₀ :: suite) hp] [] [] pos) (tTryD j X.K C sp ta ts) := by
  intro pins s σ H D I h
  refine wpAny_Try_except ?_
  refine wpAny_execs_cons (wpAny_Expr_any (wpAny_Call_Name_kw (ld_glob I hgf hmf ?_ hdb)) I.quiet hsw)
  refine PySem.W.callWith_K (h₀ := X.base) I.ok.mod.kin hkf (wpAny_mono (ha pc pins s σ H _ I h) (fun us s1 ⟨vs, H1, I1, r, q⟩ => ⟨I1.kIn, ?_⟩) fun _ _ z => by rw [hxe] at z; exact z.elim) he hpl
  have hl : (us ++ []).length = ps.length := by rw [List.append_nil, ← r.length]; exact G.len _ _ _ _ q
  have hbd := hb s1 us I1.kIn hl
  rw [List.append_nil] at hbd
  refine wpAny_call (codeAny_mono (G.run X.A X.stack s1 H1 ⟨us, []⟩ us vs _ _ hr I1.env0 hbd r q) fun res s2 hq => ?_)
  cases res with
  | ok fl =>
    cases fl with
    | next => exact False.elim hq
    | brk => exact False.elim hq
    | cont => exact False.elim hq
    | ret u =>
      obtain ⟨v, H2, I2, rv, q2⟩ := I1.after hq
      exact wpAny_execs_nil (wpAny_execs_nil ⟨_, H2, I2, q2⟩)
  | error ex =>
    obtain ⟨ea, t, H2, cls, B, dd, rfl, os, bare, ⟨hm, hE⟩, hdd, fl, L⟩ := hq
    have fl' := fl
    rw [hstk] at fl'
    refine wpAny_mono (calm_and (calm_note _ _) (wpAny_looks_onW (Q := fun _ s3 => ∃ h4, s3 = { s2 with heap := h4 } ∧ Heap.HeldW B (X.env :: X.outer) ea cls (.ref t) X.env.locals h4 ∧ s2.heap.UpToSlots h4) (by rw [I.ok.frames, hstk]) hfr fl' fun h4 held4 up4 => ⟨h4, rfl, held4, up4⟩)) ?_ fun _ _ z => z.1
    rintro _ _ ⟨⟨h4, rfl, held4, up4⟩, dk4⟩
    refine wpAny_mono (calm_and (calm_flight _ _) (wpAny_landsW (s := { s2 with heap := h4 }) (Q := fun _ s3 => ∃ h5, s3 = { s2 with heap := h5 } ∧ Heap.FlyingW B (X.env :: X.outer) ea cls (.ref t) h5 ∧ h4.UpToSlots h5) held4 fun h5 fl5 up5 => ⟨h5, rfl, fl5, up5⟩)) ?_ fun _ _ z => z.1
    rintro _ _ ⟨⟨h5, rfl, fl5, up5⟩, dk5⟩
    have up45 := up4.trans up5
    have I5 := I1.caught L os bare up45 (by rw [hstk]; exact fl5)
    obtain ⟨ob, hob, hobc⟩ := fl5.there
    refine wpAny_handleBy_cons (codeAny_handlers_test (ld_glob (X := X.suite ea) (I5.suite ea) hgC hmC ?_ hdc)) (by intro z; cases z)
    have LT : PySem.W.Looks (model X.prog X.w) h5 (typeOf (.ref ea)) cls := hobc ▸ (PySem.W.Looks.ld hob).andThen .now
    refine (PySem.W.exm_one (K := X.K) I5.kIn LT hm).at (codeAny_handlers_suite_as ?_)
    refine wpAny_mono (calm_and (calm_flight _ _) (lands_againW (s := { s2 with heap := h5 }) (Q := fun _ s3 => ∃ h6, s3 = { s2 with heap := h6 } ∧ Heap.FlyingW B (X.env :: X.outer) ea cls (.ref t) h6 ∧ h5.UpToSlots h6) fl5 fun h6 fl6 up6 => ⟨h6, rfl, fl6, up6⟩)) ?_ fun _ _ z => z.1
    rintro _ _ ⟨⟨h6, rfl, fl6, up6⟩, dk6⟩
    have hdd6 : ∀ dx, dd = some dx → ∃ o, h6.get? ea = some o ∧ o.dict = some dx := fun dx z => by
      obtain ⟨o, h1, h2⟩ := hdd dx z
      obtain ⟨o', h3, h4⟩ := ((dk4.trans dk5).trans dk6) ea o h1
      exact ⟨o', h3, h4.trans h2⟩
    have I6 := ((I1.caught L os bare (up45.trans up6) (by rw [hstk]; exact fl6)).exg (exG_of fl6 hdd6)).suite ea
    refine store_ok (X := X.suite ea) I6 hN hj (.inl hn) (show RelV (.ref ea) (.ref ea) from rfl) (fun s7 I7 => ?_) (.inr hn)
    refine wpAny_mono (hs ea pins s7 _ _ _ I7 (hE ea L.new)) (fun fl s8 q8 => ?_) fun _ _ z => z.elim
    cases fl with
    | next =>
      obtain ⟨σ8, H8, I8, q⟩ := q8
      have I8' := I8.unsuite I.ok
      obtain ⟨m, hm, hlk⟩ := id I8'.loc
      exact wpAny_nameGoes_keeps hn hm (by rw [I.ok.kind]; rfl) fun h9 v9 n9 sb9 => ⟨_, H8, I8'.unset hN hj hm hlk n9 sb9, q⟩
    | brk => obtain ⟨_, _, _, q⟩ := q8; exact q.elim
    | cont => obtain ⟨_, _, _, q⟩ := q8; exact q.elim
    | ret u =>
      obtain ⟨v8, σ8, H8, I8, r8, q⟩ := q8
      have I8' := I8.unsuite I.ok
      obtain ⟨m, hm, hlk⟩ := id I8'.loc
      exact wpAny_nameGoes_keeps hn hm (by rw [I.ok.kind]; rfl) fun h9 v9 n9 sb9 => ⟨v8, _, H8, I8'.unset hN hj hm hlk n9 sb9, r8, q⟩
end
/-! ### isinstance of one that was caught -/
section
variable {X : Cx}
theorem call_isinstG {K : PySem.W.Frag} (hK : X.K = K) : CallR X (.builtin "isinstance") (fun xs H Q => ∃ a C c u b dd, xs = [.ref a, c] ∧ H a = some (.ext (exG a (.ref C) dd)) ∧ exC K C = true ∧ IsCls c u ∧ PySem.W.kitOne K (.ref C) u = some b ∧ Q (.bl b) H) := by
  subst hK
  intro pins s σ H xs us Q I r h
  obtain ⟨a, C, c, u, b, dd, rfl, ha, hx, hc, e, q⟩ := h
  obtain ⟨v, u', rfl, ru, rv⟩ := vals2 r
  cases (show v = Value.ref a from ru)
  have eu : u' = u := by
    cases hc with
    | ref a' => exact rv
    | ty n => exact rv
  subst eu
  obtain ⟨p, _, _⟩ := (show ObjOk X.prog X.w H s.heap a (.ext (exG a (.ref C) dd)) from I.hok a _ ha)
  exact PySem.W.kia_one (kitx_exc hx) I.kIn p.of e (fun z => nomatch z) fun tk => ⟨.bl b, H, I.tok _, rfl, q⟩
end
theorem pu_isG {K : PySem.W.Frag} {σ : St} {H : Hp} {t : TA} {a C : Addr} {dd : Option Addr} {c : V} {u : Value} {b : Bool} (ha : PuA t σ H [.ref a, c]) (h : H a = some (.ext (exG a (.ref C) dd))) (hx : exC K C = true) (hc : IsCls c u) (e : PySem.W.kitOne K (.ref C) u = some b) :
    Pu (tCB (fun xs H Q => ∃ a C c u b dd, xs = [.ref a, c] ∧ H a = some (.ext (exG a (.ref C) dd)) ∧ exC K C = true ∧ IsCls c u ∧ PySem.W.kitOne K (.ref C) u = some b ∧ Q (.bl b) H) t) σ H (.bl b) := fun _ q => ha _ ⟨a, C, c, u, b, dd, rfl, h, hx, hc, e, q⟩
theorem pu_fldE {K : PySem.W.Frag} {σ : St} {H : Hp} {ta : TE} {a C dx : Addr} {fs : List (Str × V)} {f : Str} {v : V} (h : Pu ta σ H (.ref a)) (ha : H a = some (.ext (exG a (.ref C) (some dx)))) (hd : H dx = some (.ext (xdI dx fs))) (c : XCls K C) (n : NoAttr K C f) (l : fs.lookup f = some v) : Pu (tFldE K ta f) σ H v := fun _ q =>
  h _ ⟨a, C, dx, fs, v, _, rfl, ha, fun _ z => z, hd, c, n, l, q⟩
end L2

set_option linter.all false
set_option maxRecDepth 100000
set_option maxHeartbeats 1000000
namespace L2
open PySem PySem.Spec PyProof.Rows
section
variable {X : Cx} {k j : Nat} {f : Addr} {fd : FuncData} {ps : List Str} {sp : Sp} {x : Str} {st : Stmt} {p pos : Pos} {e : Expr} {es : List Expr} {t : TA} {E : XK} {P : Program} {w : World}
theorem pe_fnD (T : Fn X.K X.mg x st f fd ps) (G : FnOk X.prog X.w X.K X.mg X.base (CXD P w) k f fd ps sp) (hr : Room j X.A) (hj : k ≤ j) (hx : Passes (CXD P w) X E) (ha : PA X (e :: es) t) (hg : Gl X x := by rfl) (hdb : (x == ("__debug__" : Str)) = false := by decide)
    (he : starEach (e :: es) X.env = (false, eval e X.env) :: starEach es X.env := by rfl) (hpl : (backTo pos (starEach es X.env)).any (·.1) = false := by rfl) : PE X (.Call (.Name x p) (e :: es) [] pos) (tCall sp [] E t) :=
  pe_call G (hr.mono hj) hg T.m T.F.kp T.b .nil hx ha hdb he hpl
end
section
variable {K : PySem.W.Frag} {σ : St} {H : Hp} {D : Ends} {rest : TS} {ta te : TE} {a C t : Addr} {f : Str} {v : V}
theorem st_fldN (he : Pu te σ H v) (ha : Pu ta σ H (.ref a)) (h : H a = some (.ext (exO a (.ref C) none t))) (c : XCls K C) (n : NoAttr K C f) (q : ∀ dx, H dx = none → dx ≠ a → rest D σ (upd (upd H a (.ext (exO a (.ref C) (some dx) t))) dx (.ext (xdI dx [(f, v)])))) : tSeq (sFldE K ta te f) rest D σ H :=
  he _ (ha _ ⟨a, C, t, rfl, c, n, .inl ⟨h, q⟩⟩)
theorem st_fldO1 {dx : Addr} {fs : List (Str × V)} (he : Pu te σ H v) (ha : Pu ta σ H (.ref a)) (h : H a = some (.ext (exO a (.ref C) (some dx) t))) (hne : dx ≠ a) (hd : H dx = some (.ext (xdI dx fs))) (hl : fs.length < 1000) (c : XCls K C) (n : NoAttr K C f) (q : D.nx σ (upd H dx (.ext (xdI dx (putF f v fs))))) : sFldE K ta te f D σ H :=
  he _ (ha _ ⟨a, C, t, rfl, c, n, .inr ⟨dx, fs, h, hne, hd, hl, q⟩⟩)
end
/-! ### displays of things of any kind -/
section
variable {hd : Addr} {σ : St} {H0 : Hp} {te te' : TE} {ta : TA} {d : D} {ds ds' : List D}
theorem ds_app {H : Hp} : ∀ {vs ws : List V} {ds es : List D}, DsAt hd H vs ds → DsAt hd H ws es → DsAt hd H (vs ++ ws) (ds ++ es)
  | _, _, _, _, .nil, h => h
  | _, _, _, _, .cons a t, h => .cons a (ds_app t h)
theorem ds_ints {H : Hp} : ∀ ns : List Int, DsAt hd H (ns.map V.int) (ns.map D.int)
  | [] => .nil
  | n :: ns => .cons (.int n) (ds_ints ns)
theorem ds_set {H : Hp} {v : V} {d : D} (h : DAt hd H v d) : ∀ {vs : List V} {ds : List D} (i : Nat), DsAt hd H vs ds → DsAt hd H (vs.set i v) (ds.set i d)
  | _, _, _, .nil => .nil
  | _, _, 0, .cons a t => .cons h t
  | _, _, i + 1, .cons a t => .cons a (ds_set h i t)
end
/-! ### numbers in lowest terms, two or three of them -/
def gcI : List Int → Nat
  | [] => 0
  | a :: r => Nat.gcd a.natAbs (gcI r)
def okI (m : Nat) (ns : List Int) : Bool := decide (ns.length = m) && decide (1 ≤ ns.getLastD 0) && decide (gcI ns = 1)
def intsD : List D → Option (List Int)
  | [] => some []
  | .int n :: r => (intsD r).map (n :: ·)
  | _ :: _ => none
def okN (m : Nat) : D → Bool
  | .tup ds => match intsD ds with
    | some ns => okI m ns
    | none => false
  | _ => false
theorem intsD_ints : ∀ ns : List Int, intsD (ns.map D.int) = some ns
  | [] => rfl
  | n :: ns => by simp [intsD, intsD_ints ns]
theorem okN_ints (m : Nat) (ns : List Int) : okN m (.tup (ns.map D.int)) = okI m ns := by simp [okN, intsD_ints]
theorem intsD_len : ∀ {ds : List D} {ns : List Int}, intsD ds = some ns → ds = ns.map D.int
  | [], ns, h => by cases h; rfl
  | .int n :: r, ns, h => by
    simp only [intsD, Option.map_eq_some_iff] at h
    obtain ⟨a, h1, rfl⟩ := h
    rw [intsD_len h1]; rfl
  | .non :: _, _, h => by cases h
  | .bl _ :: _, _, h => by cases h
  | .str _ :: _, _, h => by cases h
  | .tup _ :: _, _, h => by cases h
  | .lst _ :: _, _, h => by cases h
  | .dct :: _, _, h => by cases h
theorem okN_len {m : Nat} {ds : List D} (h : ds.length ≠ m) : okN m (.tup ds) = false := by
  show (match intsD ds with | some ns => okI m ns | none => false) = false
  cases e : intsD ds with
  | none => rfl
  | some ns =>
    have := intsD_len e
    subst this
    rw [List.length_map] at h
    show okI m ns = false
    simp [okI, h]
theorem gcI_mul (k : Int) : ∀ ns : List Int, gcI (ns.map (· * k)) = gcI ns * k.natAbs
  | [] => by simp [gcI]
  | n :: ns => by
    show Nat.gcd (n * k).natAbs (gcI (ns.map (· * k))) = Nat.gcd n.natAbs (gcI ns) * k.natAbs
    rw [gcI_mul k ns, Int.natAbs_mul, Nat.gcd_mul_right]
theorem okI_mul {m : Nat} {k : Int} (hk : 2 ≤ k) {ns : List Int} : okI m (ns.map (· * k)) = false := by
  unfold okI
  have : gcI (ns.map (· * k)) ≠ 1 := by
    rw [gcI_mul]
    intro e
    have h1 : k.natAbs = 1 := Nat.eq_one_of_mul_eq_one_left e
    omega
  simp [this]
theorem okI3 (a b c : Int) : okI 3 [a, b, c] = (decide (1 ≤ c) && decide ((Int.gcd (Int.gcd a b : Nat) c : Int) = 1)) := by
  unfold okI gcI gcI gcI gcI
  rw [Nat.gcd_zero_right]
  have : (Nat.gcd a.natAbs (Nat.gcd b.natAbs c.natAbs) = 1) ↔ ((Int.gcd (Int.gcd a b : Nat) c : Nat) : Int) = 1 := by
    rw [← Nat.gcd_assoc]
    show (Nat.gcd (Int.gcd a b) c.natAbs = 1) ↔ _
    have e : Int.gcd (Int.gcd a b : Nat) c = Nat.gcd (Int.gcd a b) c.natAbs := by unfold Int.gcd; rw [Int.natAbs_natCast]
    rw [e]
    omega
  rw [Bool.eq_iff_iff]
  simp only [Bool.and_eq_true, decide_eq_true_iff, List.length_cons, List.length_nil, this]
  simp
/-! ### classes of exceptions that stand apart -/
end L2

set_option linter.all false
set_option maxRecDepth 100000
set_option maxHeartbeats 4000000
namespace L2
open PySem PySem.Spec PyProof.Rows
section
variable {X : Cx}
open PySem.SeqAt PyProof.V in
end
theorem pe_fldEK {X : Cx} {e : Expr} {f : Str} {pos : Pos} {ta : TE} {K : PySem.W.Frag} (hK : X.K = K) (he : PE X e ta) (hb : attributeBase e f X.env (eval e X.env) = eval e X.env) : PE X (.Attribute e f pos) (tFldE K ta f) := by
  subst hK
  exact pe_fldE he hb
end L2

set_option linter.all false
set_option maxRecDepth 100000
set_option maxHeartbeats 1000000
namespace L2
open PySem PySem.Spec PyProof.Rows
/-! ### enumerate of a list -/
def Ite (a : Addr) : It :=
  ⟨fun i H => ∃ xs x, H a = some (.lst xs) ∧ xs[i]? = some x,
   fun i H v H' => ∃ p x, H p = none ∧ v = .ref p ∧ H' = upd H p (.tup [.int i, x]) ∧ ∀ xs, H a = some (.lst xs) → xs[i]? = some x,
   fun i H => ∃ xs, H a = some (.lst xs) ∧ xs.length ≤ i⟩
theorem turn_enum {P : Program} {w : World} {K : PySem.W.Frag} {es : List Expr} {n1} {pos : Pos} {e it a : Addr} (hne : e ≠ it) : Turn P w K (.Tuple es n1 pos) (Ite a) [e, it] e (fun i h => (∃ old, IsEnum h e it i old) ∧ h.IsListIter it a i) where
  mem := by simp
  obj := fun i h st b hb => by
    obtain ⟨⟨old, he⟩, o, ho, _, hd⟩ := st
    simp only [List.mem_cons, List.not_mem_nil, or_false] at hb
    rcases hb with rfl | rfl
    · exact ⟨_, he, fun v z => nomatch z⟩
    · exact ⟨_, ho, fun v z => by rw [hd] at z; cases z⟩
  keep := fun i h h' st k => by
    obtain ⟨⟨old, he⟩, o, ho, r⟩ := st
    exact ⟨⟨old, k e (by simp) _ he⟩, o, k it (by simp) _ ho, r⟩
  item := by
    intro X hP hw hK hc i pins s σ H E I hf st hg
    subst hP hw hK
    obtain ⟨xs, x, ha, ex⟩ := hg
    obtain ⟨⟨old, he⟩, hit⟩ := st
    obtain ⟨_, its, n, ru, e'⟩ := (show ObjOk X.prog X.w H s.heap a (.lst xs) from I.hok a _ ha)
    obtain ⟨u, hu, rxu⟩ := ru.get ex
    have hl : s.heap.IsList a its.toArray := ⟨_, e', rfl, n, rfl⟩
    refine wpAny_pyNext_enum_item he hit hl (x := u) (by simpa using hu) hne fun h1 a1 a2 a3 a4 a5 => ⟨_, rfl, ?_⟩
    refine wpAny_letOwnedTupleGo_enum (s := { s with heap := h1, toks := s.toks + 1 }) a1 fun h2 he2 sb => ?_
    have el := Heap.lt_size he
    have fr : H s.heap.objs.size = none := I.hok.fresh (Nat.le_refl _)
    have up : ∀ b o, b ≠ e → h1.get? b = some o → h2.get? b = some o := fun b o n g => sb.extBut _ _ n g
    have hT : IsPair h2 s.heap.objs.size (.int i s.toks) u := up _ _ (Nat.ne_of_gt el) a3
    have I2 : Inv X pins σ (upd H s.heap.objs.size (.tup [.int i, x])) { s with heap := h2 } := I.turnedT (ch := [e, it]) (fun b o n g => by
      simp only [List.mem_cons, List.not_mem_nil, or_false, not_or] at n
      exact up b o n.1 (a5 b o n.1 n.2 g)) hf hT ⟨_, rfl⟩ rxu
    refine ⟨.ref s.heap.objs.size, upd H s.heap.objs.size (.tup [.int i, x]), I2.tok _, rfl, ⟨_, x, fr, rfl, rfl, fun xs' h => ?_⟩, ⟨⟨u, ?_⟩, a2.at fun o g => up _ o (Ne.symm hne) g⟩, fun b hb => ?_⟩
    · rw [ha] at h
      cases h
      exact ex
    · exact he2
    · have : b ≠ s.heap.objs.size := by
        simp only [List.mem_cons, List.not_mem_nil, or_false] at hb
        rcases hb with rfl | rfl
        · exact Nat.ne_of_lt el
        · obtain ⟨o, ho, _⟩ := hit
          exact Nat.ne_of_lt (Heap.lt_size ho)
      rw [upd_ne this]; exact (hf b hb).1
  done := by
    intro X hP hw hK hc i pins s σ H E I hf st hg
    subst hP hw hK
    obtain ⟨xs, ha, hl'⟩ := hg
    obtain ⟨⟨old, he⟩, hit⟩ := st
    obtain ⟨_, its, n, ru, e'⟩ := (show ObjOk X.prog X.w H s.heap a (.lst xs) from I.hok a _ ha)
    have hl : s.heap.IsList a its.toArray := ⟨_, e', rfl, n, rfl⟩
    have l1 := ru.length
    refine wpAny_pyNext_enum_end (I.ok.hd hc) he hit hl (by simp; omega) fun h' ext => ⟨rfl, I.turnedL (ch := [e, it]) (fun b o n g => ?_) hf⟩
    simp only [List.mem_cons, List.not_mem_nil, or_false, not_or] at n
    exact ext b o n.2 g
  self := fun _ _ _ _ _ st h => by
    obtain ⟨⟨old, he⟩, _⟩ := st
    exact wpAny_pyIter_enum he h
section
variable {X : Cx}
def iEnum (t : TA) : TI := fun σ H R => t σ H fun vs H1 => ∃ a xs, vs = [.ref a] ∧ H1 a = some (.lst xs) ∧ R (Ite a) H1
theorem pi_enum {es : List Expr} {n1} {tp : Pos} {e : Expr} {ta : TA} {p pos : Pos} (hg : Gl X "enumerate") (hm : X.mg "enumerate" = none) (hb : bootBuiltins "enumerate" = some (.type "enumerate")) (ha : PA X [e] ta)
    (hs : starEach [e] X.env = [(false, eval e X.env)] := by rfl) : PI X (.Tuple es n1 tp) (.Call (.Name "enumerate" p) [e] [] pos) (iEnum ta) := by
  intro pins s σ H R I h
  refine Call_ (ld_blt I hg hm hb (PyProof.Rows.callWith_type1 (thn (ha pos pins s σ H _ I h) fun us s1 ⟨vs, H1, I1, r1, q1⟩ => ?_) (by rw [hs]; rfl) (by rfl)))
  obtain ⟨a, xs, rfl, h1, q⟩ := q1
  cases r1 with
  | cons r rr =>
    cases rr
    cases r
    obtain ⟨_, its, n, ru, e'⟩ := (show ObjOk X.prog X.w H1 s1.heap a (.lst xs) from I1.hok a _ h1)
    refine call_enumerate_list (items := its.toArray) ⟨_, e', rfl, n, rfl⟩ fun h' z1 z2 z3 k => ?_
    refine wpAny_pyIter_enum (s := { s1 with heap := h' }) z1 ?_
    refine ⟨s1.heap.objs.size + 1, [s1.heap.objs.size + 1, s1.heap.objs.size], _, _, H1, rfl, I1.kept (t' := s1.toks) k, turn_enum (Nat.ne_of_gt (Nat.lt_succ_self _)), ⟨⟨_, z1⟩, z2⟩, fun b hb => ?_, q⟩
    have ge : s1.heap.objs.size ≤ b := by
      simp only [List.mem_cons, List.not_mem_nil, or_false] at hb
      rcases hb with rfl | rfl <;> omega
    exact I1.fpOk ge (I1.hok.fresh ge)
end
/-- for i, x in enumerate(l) -/
theorem for_enum {a : Addr} {xs : List V} {g : TG} {tb : TS} {D : Ends} {σ : St} {H : Hp} (Pv : Nat → St → Hp → Prop) (h0 : Pv 0 σ H) (hl : ∀ i σ H, i ≤ xs.length → Pv i σ H → H a = some (.lst xs))
    (hs : ∀ (i : Nat) x σ H p, xs[i]? = some x → Pv i σ H → H p = none → g (.ref p) σ (upd H p (.tup [.int i, x])) fun σ2 H2 => tb { D with nx := Pv (i + 1), ct := Pv (i + 1), bk := D.nx } σ2 H2) (hd : ∀ σ H, Pv xs.length σ H → D.nx σ H) (te : TA) (ha : PuA te σ H [.ref a]) : tFor (iEnum te) g tb D σ H := by
  refine ha _ ⟨a, xs, rfl, hl 0 σ H (Nat.zero_le _) h0, ?_⟩
  refine ⟨fun i m σ H => m = xs.length - i ∧ i ≤ xs.length ∧ Pv i σ H, ⟨_, rfl, Nat.zero_le _, h0⟩, ?_⟩
  rintro i m σ H ⟨rfl, hi, p⟩
  have q := hl i σ H hi p
  by_cases hlt : i < xs.length
  · refine .inr ⟨⟨xs, xs[i], q, by simp [hlt]⟩, Pv (i + 1), fun σ' H' p' => ⟨xs.length - (i + 1), by omega, rfl, hlt, p'⟩, fun x H' y => ?_⟩
    obtain ⟨pa, x', hpa, rfl, rfl, hx⟩ := y
    exact hs i x' σ H pa (hx xs q) p hpa
  · have e : i = xs.length := by omega
    subst e
    exact .inl ⟨⟨xs, q, Nat.le_refl _⟩, hd σ H p⟩
theorem st_enum {a : Addr} {xs : List V} {g : TG} {tb rest : TS} {D : Ends} {σ : St} {H : Hp} {te : TA} (ha : PuA te σ H [.ref a]) (Pv : Nat → St → Hp → Prop) (h0 : Pv 0 σ H) (hl : ∀ i σ H, i ≤ xs.length → Pv i σ H → H a = some (.lst xs))
    (hs : ∀ (i : Nat) x σ H p, xs[i]? = some x → Pv i σ H → H p = none → g (.ref p) σ (upd H p (.tup [.int i, x])) fun σ2 H2 => tb { D with nx := Pv (i + 1), ct := Pv (i + 1), bk := rest D } σ2 H2) (hd : ∀ σ H, Pv xs.length σ H → rest D σ H) : tSeq (tFor (iEnum te) g tb) rest D σ H :=
  for_enum (D := { D with nx := rest D }) Pv h0 hl hs hd te ha
end L2

set_option linter.all false
set_option maxRecDepth 100000
set_option maxHeartbeats 1000000
namespace L2
open PySem PySem.Spec PyProof.Rows
/-! ### a loop whose body may raise, exceptions with fields -/
/-- made, and not yet under way -/
def ReadyW (B : Heap) (l : List Env) (e : Addr) (cls : Value) (t : Addr) (h : Heap) : Prop := B.StaysIn h ∧ B.get? e = none ∧ h.FunFrames B l ∧ ∃ dd, exO e cls dd t h
section
variable {P : Program} {w : World} {K : PySem.W.Frag} {mg : Str → Option Value} {base : Heap} {N : List Str} {qual : Str} {scope : Scope} {f : Addr} {cd : Value} {A : Around} {outer : List Env} {s : Shared} {H : Hp} {E : XK}
def ownD (P : Program) (w : World) (X : Cx) (E : XK) : Value → Shared → Prop := fun e s' => ∃ pins σ H1 s1, Inv X pins σ H1 s1 ∧ ∃ (ea t : Addr) (H2 : Hp) (cls : Value) (B : Heap) (dd : Option Addr), e = .ref ea ∧ s'.os = s1.os ∧ AllBare s'.gens ∧ E cls dd H2 ∧ (∀ dx, dd = some dx → ∃ o, s'.heap.get? ea = some o ∧ o.dict = some dx) ∧
  (Heap.FlyingW B X.stack ea cls (.ref t) s'.heap ∨ (∃ L, X.env.frame = some L ∧ Heap.HeldW B X.stack ea cls (.ref t) L s'.heap) ∨ ReadyW B X.stack ea cls t s'.heap) ∧ Lay P w X.stack H1 H2 s1 ea B s'.heap
theorem passOD {X : Cx} : Passes (CXD P w) (X.wish (ownD P w X E)) E := fun pins σ H1 s1 e s' I ⟨ea, t, H2, cls, B, dd, h1, h2, h3, h4, h4', h5, h6⟩ => ⟨pins, σ, H1, s1, I.unwish, ea, t, H2, cls, B, dd, h1, h2, h3, h4, h4', .inl h5, h6⟩
theorem dk_dict {h h' : Heap} {ea : Addr} {dd : Option Addr} (hdd : ∀ dx, dd = some dx → ∃ o, h.get? ea = some o ∧ o.dict = some dx) (dk : DK h h') : ∀ dx, dd = some dx → ∃ o, h'.get? ea = some o ∧ o.dict = some dx := fun dx z => by
  obtain ⟨o, h1, h2⟩ := hdd dx z
  obtain ⟨o', h3, h4⟩ := dk ea o h1
  exact ⟨o', h3, h4.trans h2⟩
/-- the first note of one that is made -/
theorem note_first {M : Model} {A : Around} {E : Value → Shared → Prop} {s : Shared} {B : Heap} {env : Env} {outer : List Env} {L e t : Addr} {cls : Value} {Q : Unit → Shared → Prop} (hfr : A.frames = some (env :: outer)) (hf : env.frame = some L) (x : ReadyW B (env :: outer) e cls t s.heap)
    (hQ : ∀ h', Heap.HeldW B (env :: outer) e cls (.ref t) L h' → s.heap.UpToSlots h' → Q () { s with heap := h' }) : wpAny M A (noteFrame (.ref e) env) Q E s := by
  obtain ⟨x1, x2, x3, dd, x4⟩ := x
  unfold exO at x4
  unfold noteFrame
  simp only [hf]
  refine wpAny_bind (wpAny_field x4 rfl (x := .none) rfl ?_)
  rw [if_neg (by decide)]
  exact wpAny_entryW (a0 := .ref t) hfr x3 hf x4 x1 x2 rfl (show 1 < 6 by decide) rfl fun h' ⟨k1, k2, k3, k4⟩ => hQ h' ⟨k1, x2, k2, k3⟩ k4
theorem passesOwnD : PassesOwn (model P w) (cxOf (CXD P w) P w K mg base N qual scope f cd A outer s H E).A (cxOf (CXD P w) P w K mg base N qual scope f cd A outer s H E).env (ownD P w (cxOf (CXD P w) P w K mg base N qual scope f cd A outer s H E) E) := by
  rintro e s' ⟨pins, σ, H1, s1, I, ea, t, H2, cls, B, dd, rfl, os, bare, hE, hdd, fl, L⟩
  have fin : ∀ (h' : Heap), Heap.HeldW B (cxOf (CXD P w) P w K mg base N qual scope f cd A outer s H E).stack ea cls (.ref t) s.heap.objs.size h' → s'.heap.UpToSlots h' → DK s'.heap h' → cameBackBy (model P w) (cxOf (CXD P w) P w K mg base N qual scope f cd A outer s H E).A (cxOf (CXD P w) P w K mg base N qual scope f cd A outer s H E).env (ownD P w (cxOf (CXD P w) P w K mg base N qual scope f cd A outer s H E) E) (.ref ea) { s' with heap := h' } := fun h' held up dk => by
    refine cameBack_held (s := { s' with heap := h' }) (L := s.heap.objs.size) rfl held fun h2 k2 => ?_
    refine ⟨pins, σ, H1, s1, I, ea, t, H2, cls, B, dd, rfl, os, bare, hE, dk_dict hdd (dk.trans fun b o q => ⟨o, (k2 b).trans q, rfl⟩), .inr (.inl ⟨_, rfl, held_get k2 held⟩), L.up fun b o q hb sl z => ?_⟩
    obtain ⟨_, o', ho', hd'⟩ := I.stack.mem hb
    rw [q] at ho'
    cases ho'
    obtain ⟨sl2, z2⟩ := up b _ z hd'
    exact ⟨sl2, (k2 b).trans z2⟩
  have XF : (cxOf (CXD P w) P w K mg base N qual scope f cd A outer s H E).A.frames = some (envOfC qual scope s.heap.objs.size f cd :: outer) := I.ok.frames
  rcases fl with fl | ⟨L0, e0, held⟩ | rd
  · refine wpAny_mono (calm_and (calm_note _ _) (wpAny_looks_onW (Q := fun _ s2 => ∃ h', s2 = { s' with heap := h' } ∧ Heap.HeldW B (envOfC qual scope s.heap.objs.size f cd :: outer) ea cls (.ref t) s.heap.objs.size h' ∧ s'.heap.UpToSlots h') XF rfl fl fun h' held up => ⟨h', rfl, held, up⟩)) ?_ fun _ _ z => z.1
    rintro _ _ ⟨⟨h', rfl, held, up⟩, dk⟩
    exact fin h' held up dk
  · have e1 : L0 = s.heap.objs.size := (Option.some.inj e0).symm
    subst e1
    exact wpAny_noteFrame_againW rfl held.2.2.2 (fin s'.heap held (fun b o q _ => ⟨o.slots, q⟩) (DK.refl _))
  · refine wpAny_mono (calm_and (calm_note _ _) (note_first (Q := fun _ s2 => ∃ h', s2 = { s' with heap := h' } ∧ Heap.HeldW B (envOfC qual scope s.heap.objs.size f cd :: outer) ea cls (.ref t) s.heap.objs.size h' ∧ s'.heap.UpToSlots h') XF rfl rd fun h' held up => ⟨h', rfl, held, up⟩)) ?_ fun _ _ z => z.1
    rintro _ _ ⟨⟨h', rfl, held, up⟩, dk⟩
    exact fin h' held up dk
/-- and it leaves the frame -/
theorem ownD_out {e : Value} {s' : Shared} (h : ownD P w (cxOf (CXD P w) P w K mg base N qual scope f cd A outer s H E) E e s') : (cxOf (CXD P w) P w K mg base N qual scope f cd A outer s H E).xe e s' := by
  obtain ⟨pins, σ, H1, s1, I, ea, t, H2, cls, B, dd, rfl, os, bare, hE, hdd, fl, L⟩ := h
  have OUT : ∀ h', Heap.FlyingW B outer ea cls (.ref t) h' → s'.heap.UpToSlots h' → DK s'.heap h' → CXD P w outer H s E (.ref ea) { s' with heap := h' } := fun h' fl' up dk => by
    have nf : ∀ {b : Addr} {o : Obj}, s.heap.get? b = some o → b ∉ frs outer → b ∉ frs (envOfC qual scope s.heap.objs.size f cd :: outer) := fun {b o} e n z => by
      have z' : b ∈ s.heap.objs.size :: frs outer := z
      rcases List.mem_cons.mp z' with q | q
      · exact absurd (Heap.lt_size e) (by rw [q]; exact Nat.lt_irrefl _)
      · exact n q
    have inn : ∀ {b : Addr}, b ∈ frs outer → b ∈ frs (envOfC qual scope s.heap.objs.size f cd :: outer) := fun {b} h => by
      show b ∈ s.heap.objs.size :: frs outer
      exact List.mem_cons_of_mem _ h
    have fre : ∀ b o, s.heap.get? b = some o → H b = none → H1 b = none := fun b o q n => I.base.free b o q n (by exact List.not_mem_nil)
    refine ⟨ea, t, H2, cls, B, dd, rfl, os.trans I.os, bare, hE, dk_dict hdd dk, fl', ⟨L.hok, L.new, fun b o q n hb => ?_, fun b o q n hb => ?_, fun b o q hb => ?_, fun b o q n => ?_, fun b xs q => L.tups b xs (I.base.tups b xs q), fun b o u q => L.frzs b o u (I.base.frzs b o u q), fun b ps q => ?_⟩⟩
    · exact L.keep b o (I.base.keep b o q n hb List.not_mem_nil) (fre b o q n) (nf q hb)
    · obtain ⟨sl, z⟩ := I.base.slot b o q n hb List.not_mem_nil
      obtain ⟨sl2, z2⟩ := L.slot b _ z (fre b o q n) (inn hb)
      obtain ⟨_, o', ho', hd'⟩ := I.ok.funs.mem hb
      rw [show (cxOf (CXD P w) P w K mg base N qual scope f cd A outer s H E).s₀.heap.get? b = some o from q] at ho'
      cases ho'
      obtain ⟨sl3, z3⟩ := up b _ z2 hd'
      exact ⟨sl3, z3⟩
    · obtain ⟨o', z⟩ := I.base.there b o q List.not_mem_nil
      exact L.there b o' z (nf q hb)
    · obtain ⟨sl, z⟩ := I.base.any q n List.not_mem_nil
      exact L.free b _ z (fre b o q n)
    · obtain ⟨m1, z1⟩ := I.base.tbls b ps q
      obtain ⟨m2, z2⟩ := L.tbls b _ z1
      exact ⟨m1 ++ m2, by rw [z2, Array.append_assoc]⟩
  have XF : (cxOf (CXD P w) P w K mg base N qual scope f cd A outer s H E).A.frames = some (envOfC qual scope s.heap.objs.size f cd :: outer) := I.ok.frames
  rcases fl with fl | ⟨L0, e0, held⟩ | rd
  · refine wpAny_mono (calm_and (calm_leaving _ _) (wpAny_leaves_onW (A := (cxOf (CXD P w) P w K mg base N qual scope f cd A outer s H E).A) (Q := fun _ s2 => ∃ h', s2 = { s' with heap := h' } ∧ Heap.FlyingW B outer ea cls (.ref t) h' ∧ s'.heap.UpToSlots h') XF rfl fl fun h' fl' up => ⟨h', rfl, fl', up⟩)) ?_ fun _ _ z => z.1
    rintro _ _ ⟨⟨h', rfl, fl', up⟩, dk⟩
    exact OUT h' fl' up dk
  · have e1 : L0 = s.heap.objs.size := (Option.some.inj e0).symm
    subst e1
    show wpAny (model P w) _ (leaving (envOfC qual scope s.heap.objs.size f cd) (.ref ea)) _ _ s'
    refine wpAny_mono (calm_and (calm_leaving _ _) (Q := fun _ s2 => ∃ h', s2 = { s' with heap := h' } ∧ Heap.FlyingW B outer ea cls (.ref t) h' ∧ s'.heap.UpToSlots h') (E := fun _ _ => False) ?_) ?_ fun _ _ z => z.1.elim
    · unfold leaving
      refine wpAny_bind (wpAny_noteFrame_againW rfl held.2.2.2 ?_)
      refine wpAny_landsW held fun h' fl' up => ?_
      obtain ⟨y1, y2, ⟨_, _, y3⟩, y4⟩ := fl'
      exact ⟨h', rfl, ⟨y1, y2, y3, y4⟩, up⟩
    rintro _ _ ⟨⟨h', rfl, fl', up⟩, dk⟩
    exact OUT h' fl' up dk
  · obtain ⟨r1, r2, r3, dd', r4⟩ := rd
    refine wpAny_mono (calm_and (calm_leaving _ _) (wpAny_leaving_firstW (Q := fun _ s2 => ∃ h', s2 = { s' with heap := h' } ∧ Heap.LeftW B (envOfC qual scope s.heap.objs.size f cd :: outer) ea cls (.ref t) s'.heap h') (A := (cxOf (CXD P w) P w K mg base N qual scope f cd A outer s H E).A) (a0 := .ref t) XF r3 rfl r4 r1 r2 rfl rfl rfl fun h' hL => ⟨h', rfl, hL⟩)) ?_ fun _ _ z => z.1
    rintro _ _ ⟨⟨h', rfl, k1, ⟨_, _, k2⟩, k3, k4⟩, dk⟩
    exact OUT h' ⟨k1, r2, k2, k3⟩ k4 dk
/-- for .. whose body may raise -/
theorem ps_forD {X : Cx} (hX : X = cxOf (CXD P w) P w K mg base N qual scope f cd A outer s H E) {tg iter : Expr} {body : List Stmt} {wi : TI} {g : TG} {tb : TS} {pos : Pos} (hc : X.calm = true) (hi : PI (X.wish (ownD P w X E)) tg iter wi) (hg : PG (X.wish (ownD P w X E)) tg g) (hb : PSs (X.wish (ownD P w X E)) body tb)
    (hs : ∀ x, foldedSetIterable iter X.env x = pure x := by intro _; rfl) : PS X (.For tg iter body [] pos) (tFor wi g tb) := by
  subst hX
  intro pins s1 σ H1 D I h
  refine wpAny_mono (ps_for (X := Cx.wish (cxOf (CXD P w) P w K mg base N qual scope f cd A outer s H E) (ownD P w (cxOf (CXD P w) P w K mg base N qual scope f cd A outer s H E) E)) passesOwnD hc hi hg hb hs pins s1 σ H1 D (I.wish _) h) (fun fl s2 q => ?_) fun e s2 q => ownD_out q
  cases fl with
  | next => obtain ⟨σ7, H7, I7, q7⟩ := q; exact ⟨σ7, H7, I7.unwish, q7⟩
  | cont => obtain ⟨σ7, H7, I7, q7⟩ := q; exact ⟨σ7, H7, I7.unwish, q7⟩
  | brk => obtain ⟨σ7, H7, I7, q7⟩ := q; exact ⟨σ7, H7, I7.unwish, q7⟩
  | ret v => obtain ⟨x7, σ7, H7, I7, r7, q7⟩ := q; exact ⟨x7, σ7, H7, I7.unwish, r7, q7⟩
/-- raise C(..) within a loop -/
theorem ps_raiseL {x : Str} {np cpos pos : Pos} {C fI : Addr} {fd : FuncData} {ps names : List Str} {k j : Nat} {e : Expr} {es : List Expr} {ta : TA} (hI : exI K C fI = true) (hkC : PySem.W.keepIn K (.ref C) = true) (hm : mg x = some (.ref C)) (hg : Gl (Cx.wish (cxOf (CXD P w) P w K mg base N qual scope f cd A outer s H E) (ownD P w (cxOf (CXD P w) P w K mg base N qual scope f cd A outer s H E) E)) x)
    (F : FnOk P w K mg base CX0 k fI fd ps (spI C names)) (hr : Room j (A.deeper (envOfC qual scope s.heap.objs.size f cd))) (hj : k + 1 ≤ j) (hb : Binds K fd ps []) (ha : PA (Cx.wish (cxOf (CXD P w) P w K mg base N qual scope f cd A outer s H E) (ownD P w (cxOf (CXD P w) P w K mg base N qual scope f cd A outer s H E) E)) (e :: es) ta) (hsz : names.length ≤ 1000 := by decide) (hdb : (x == ("__debug__" : Str)) = false := by decide)
    (he : starEach (e :: es) (Cx.wish (cxOf (CXD P w) P w K mg base N qual scope f cd A outer s H E) (ownD P w (cxOf (CXD P w) P w K mg base N qual scope f cd A outer s H E) E)).env = (false, eval e (Cx.wish (cxOf (CXD P w) P w K mg base N qual scope f cd A outer s H E) (ownD P w (cxOf (CXD P w) P w K mg base N qual scope f cd A outer s H E) E)).env) :: starEach es (Cx.wish (cxOf (CXD P w) P w K mg base N qual scope f cd A outer s H E) (ownD P w (cxOf (CXD P w) P w K mg base N qual scope f cd A outer s H E) E)).env := by rfl) (hpl : (backTo cpos (starEach es (Cx.wish (cxOf (CXD P w) P w K mg base N qual scope f cd A outer s H E) (ownD P w (cxOf (CXD P w) P w K mg base N qual scope f cd A outer s H E) E)).env)).any (·.1) = false := by rfl) :
    PS (Cx.wish (cxOf (CXD P w) P w K mg base N qual scope f cd A outer s H E) (ownD P w (cxOf (CXD P w) P w K mg base N qual scope f cd A outer s H E) E)) (.Raise (some (.Call (.Name x np) (e :: es) [] cpos)) none pos) (fun _ σ H => ta σ H fun vs H1 => vs.length = names.length ∧ ∀ dx, H1 dx = none → E (.ref C) (some dx) (upd H1 dx (.ext (xdI dx (names.zip vs))))) := by
  intro pins s1 σ H1 D I hE
  rw [arm_exec_Raise]
  refine wpAny_bind (wpAny_standAt (xi_raiseStmt hI (I.ok.hd rfl) (wpAny_bind (wpAny_mono (wpAny_Call_Name_kw (ld_glob I hg hm (PySem.W.callWith_K (h₀ := base) I.ok.mod.kin hkC (thn (ha cpos pins s1 σ H1 _ I hE) fun us s2 ⟨vs, H2, I2, r, hlen, q⟩ => ⟨I2.kIn, ?_⟩) he hpl) hdb)) (fun v s₃ h₃ => wpAny_bind (wpAny_standAt (wpAny_pure h₃))) fun _ _ x => x))))
  have hul : us.length = names.length := by rw [← r.length, hlen]
  obtain ⟨hp, g, d, tk, os⟩ := s2
  show wpAny _ _ (call (.ref C) us) _ _ _
  refine xi_call (h := hp) I2.kIn hI ?_ (by rw [hul, sizeLine_eq]; omega)
  have hget : (exPush hp C us).get? (hp.objs.size + 1) = some { cls := .ref C, data := .fields #[.ref hp.objs.size, .none, .none, .none, .bool false, .none] } := by heap_get
  have hx : exO (hp.objs.size + 1) (.ref C) none hp.objs.size (exPush hp C us) := hget
  have I3 : Inv (Cx.wish (cxOf (CXD P w) P w K mg base N qual scope f cd A outer s H E) (ownD P w (cxOf (CXD P w) P w K mg base N qual scope f cd A outer s H E) E)) pins σ (upd H2 (hp.objs.size + 1) (.ext (exO (hp.objs.size + 1) (.ref C) none hp.objs.size))) ⟨exPush hp C us, g, d, tk, os⟩ :=
    I2.laid (a := hp.objs.size + 1) (t' := tk) (fun b u z => Heap.get?_push_of_some _ (Heap.get?_push_of_some _ z)) (Nat.le_succ _) (exO.ok hx)
  have fr2 : H2 (hp.objs.size + 1) = none := I2.hok.fresh (Nat.le_succ _)
  have hnew : s.heap.get? (hp.objs.size + 1) = none := by
    cases z : s.heap.get? (hp.objs.size + 1) with
    | none => rfl
    | some o =>
      obtain ⟨o', z'⟩ := I2.base.there _ o z List.not_mem_nil
      exact absurd (Heap.lt_size z') (by show ¬ (hp.objs.size + 1 < hp.objs.size); omega)
  have r2 : Vals (V.ref (hp.objs.size + 1) :: vs) (Value.ref (hp.objs.size + 1) :: us) := .cons rfl r
  have hq : spI C names (V.ref (hp.objs.size + 1) :: vs) (upd H2 (hp.objs.size + 1) (.ext (exO (hp.objs.size + 1) (.ref C) none hp.objs.size))) (fun v H' => v = .non ∧ ∃ dx, H2 dx = none ∧ dx ≠ hp.objs.size + 1 ∧ H' = upd (upd H2 (hp.objs.size + 1) (.ext (exO (hp.objs.size + 1) (.ref C) (some dx) hp.objs.size))) dx (.ext (xdI dx (names.zip vs)))) E0 := by
    refine ⟨_, _, vs, rfl, upd_same, hlen, fun dx h1 h2 => ⟨rfl, dx, ?_, h2, ?_⟩⟩
    · rw [upd_ne h2] at h1; exact h1
    · rw [upd_upd]
  have hl : (Value.ref (hp.objs.size + 1) :: us ++ []).length = ps.length := by
    have e := r2.length
    rw [F.len _ _ _ _ hq] at e
    rw [List.append_nil]; exact e.symm
  have hbd := hb _ (Value.ref (hp.objs.size + 1) :: us) I3.kIn hl
  rw [List.append_nil] at hbd
  refine wpAny_call (codeAny_mono (F.run _ (envOfC qual scope s.heap.objs.size f cd :: outer) _ _ ⟨Value.ref (hp.objs.size + 1) :: us, []⟩ (Value.ref (hp.objs.size + 1) :: us) _ _ E0 ((hr.mono hj).make C us []) (I3.env0.make C us []) hbd r2 hq) fun r s' hq' => ?_)
  cases r with
  | error e => exact pass0 pins σ _ _ e s' I3 hq'
  | ok fl =>
    cases fl with
    | ret u =>
      have un := (show ∃ v H', s'.os = os ∧ AllBare s'.gens ∧ Un (frs (envOfC qual scope s.heap.objs.size f cd :: outer)) [] (upd H2 (hp.objs.size + 1) (.ext (exO (hp.objs.size + 1) (.ref C) none hp.objs.size))) H' (exPush hp C us) s'.heap ∧ HOk P w H' s'.heap ∧ RelV v u ∧ _ from hq')
      obtain ⟨v, H', I4, rv, ev, dx, h1, h2, e3⟩ := I3.after hq'
      obtain ⟨v5, H5, os5, bare5, un, hok5, rv5, ev5, dx5, h15, h25, e35⟩ := un
      subst ev5 e35
      have ee : (upd (upd H2 (hp.objs.size + 1) (.ext (exO (hp.objs.size + 1) (.ref C) (some dx5) hp.objs.size))) dx5 (.ext (xdI dx5 (names.zip vs)))) (hp.objs.size + 1) = some (.ext (exO (hp.objs.size + 1) (.ref C) (some dx5) hp.objs.size)) := by
        rw [upd_ne (Ne.symm h25), upd_same]
      have hx5 : exO (hp.objs.size + 1) (.ref C) (some dx5) hp.objs.size s'.heap := (hok5 _ _ ee).1
      have e4 : del (upd (upd H2 (hp.objs.size + 1) (.ext (exO (hp.objs.size + 1) (.ref C) (some dx5) hp.objs.size))) dx5 (.ext (xdI dx5 (names.zip vs)))) (hp.objs.size + 1) = upd H2 dx5 (.ext (xdI dx5 (names.zip vs))) := by
        funext b
        by_cases hb : b = hp.objs.size + 1
        · rw [hb, del_self, upd_ne (Ne.symm h25), fr2]
        · rw [del_ne hb]
          by_cases hd : b = dx5
          · rw [hd, upd_same, upd_same]
          · rw [upd_ne hd, upd_ne hb, upd_ne hd]
      have fr : ∀ b ∈ frs (envOfC qual scope s.heap.objs.size f cd :: outer), H2 b = none := I2.stkFree
      have stk : s'.heap.FunFrames _ (envOfC qual scope s.heap.objs.size f cd :: outer) := I4.stack
      have lt : ∀ {b : Addr} {o : Obj}, hp.get? b = some o → b ≠ hp.objs.size + 1 := fun {b o} e z => absurd (Heap.lt_size e) (by rw [z]; exact Nat.not_lt.mpr (Nat.le_succ _))
      have up3 : ∀ {b : Addr} {o : Obj}, hp.get? b = some o → (exPush hp C us).get? b = some o := fun {b o} e => Heap.get?_push_of_some _ (Heap.get?_push_of_some _ e)
      have dne : ∀ {b : Addr} {o : Obj}, hp.get? b = some o → H2 b = none → b ≠ dx5 := fun {b o} e n z => by
        have := un.free b o (up3 e) (by rw [upd_ne (lt e)]; exact n) List.not_mem_nil
        rw [z, upd_same] at this
        cases this
      have hin : ∀ env ∈ (envOfC qual scope s.heap.objs.size f cd :: outer), ∀ b, env.frame = some b → b ∈ (hp.objs.size + 1) :: frs (envOfC qual scope s.heap.objs.size f cd :: outer) := fun env he b hb => List.mem_cons_of_mem _ (List.mem_filterMap.mpr ⟨env, he, hb⟩)
      refine ⟨rv5, _, _, some dx5, rfl, I4.kIn, hx5, ⟨pins, σ, H2, ⟨hp, g, d, tk, os⟩, I2.unwish, _, _, upd H2 dx5 (.ext (xdI dx5 (names.zip vs))), .ref C, PySem.W.hideAll s'.heap ((hp.objs.size + 1) :: frs (envOfC qual scope s.heap.objs.size f cd :: outer)), some dx5, rfl, os5, bare5, q dx5 h15, (fun dx z => ⟨_, hx5, z⟩), .inr (.inr ⟨fun b o q => PySem.W.of_hideAll _ q, PySem.W.hideAll_none _ (List.mem_cons_self ..), PySem.W.funFrames_hide stk hin, _, hx5⟩), ⟨?_, ?_, ?_, ?_, ?_, ?_, ?_, ?_, ?_⟩⟩⟩
      · intro a o qa
        rw [← e4] at qa
        have hae : a ≠ hp.objs.size + 1 := fun z => by rw [z, del_self] at qa; cases qa
        rw [del_ne hae] at qa
        have key := (hok5 a o qa).stay (H' := upd H2 dx5 (.ext (xdI dx5 (names.zip vs)))) (h' := PySem.W.hideAll s'.heap ((hp.objs.size + 1) :: frs (envOfC qual scope s.heap.objs.size f cd :: outer))) (fun b u hb z => PySem.W.hideAll_get _ z fun hm => ?_) (fun b z => ?_) fun b xs z => ?_
        · exact key
        · rcases List.mem_cons.mp hm with hm | hm
          · subst hm
            rcases hb with hb | hb
            · exact hae hb.symm
            · rw [ee] at hb; cases hb
          · obtain ⟨_, ob, hob, _⟩ := I2.stack.mem hm
            have n3 := un.free b ob (up3 hob) (by rw [upd_ne (lt hob)]; exact fr b hm) List.not_mem_nil
            rcases hb with hb | hb
            · rw [hb, qa] at n3; cases n3
            · rw [hb] at n3; cases n3
        · rw [← e4, del_ne (fun y => by rw [y, ee] at z; cases z)]; exact z
        · rw [← e4, del_ne (fun y => by rw [y, ee] at z; cases z)]; exact z
      · rw [← e4, del_self]
      · intro b o e n hb
        exact PySem.W.hideAll_get _ (un.keep b o (up3 e) (by rw [upd_ne (lt e)]; exact n) hb List.not_mem_nil) fun z => by
          rcases List.mem_cons.mp z with z | z
          · exact lt e z
          · exact hb z
      · intro b o e n hb
        exact un.slot b o (up3 e) (by rw [upd_ne (lt e)]; exact n) hb List.not_mem_nil
      · intro b o e hb
        obtain ⟨o', z⟩ := un.there b o (up3 e) List.not_mem_nil
        exact ⟨o', PySem.W.hideAll_get _ z fun z => by
          rcases List.mem_cons.mp z with z | z
          · exact lt e z
          · exact hb z⟩
      · intro b o e n
        rw [upd_ne (dne e n)]; exact n
      · intro b xs e
        rw [upd_ne (fun z => by rw [z, h15] at e; cases e)]; exact e
      · intro b o u' e
        rw [upd_ne (fun z => by rw [z, h15] at e; cases e)]; exact e
      · intro b ps e
        exact ⟨#[], by rw [upd_ne (fun z => by rw [z, h15] at e; cases e), e]; simp⟩
    | next => exact False.elim hq'
    | brk => exact False.elim hq'
    | cont => exact False.elim hq'
end
end L2

set_option linter.all false
set_option maxRecDepth 100000
set_option maxHeartbeats 1000000
namespace L2
open PySem PySem.Spec PyProof.Rows
/-! ### defs without loops, called while an exception is at hand -/
structure RoomQ (k : Nat) (A : Around) : Prop where
  dp : A.depth + 3 * k + 5 < recursionLimit
  un : A.units + 16 * k + 200 < cLine
theorem RoomQ.mono {j k : Nat} {A : Around} (r : RoomQ k A) (h : j ≤ k) : RoomQ j A := ⟨by have := r.dp; omega, by have := r.un; omega⟩
theorem RoomQ.deeper {k : Nat} {A : Around} (r : RoomQ (k + 1) A) (env : Env) : RoomQ k (A.deeper env) :=
  ⟨by have := r.dp; show A.depth + 1 + 3 * k + 5 < _; omega, by have := r.un; show A.units + 3 + 16 * k + 200 < _; omega⟩
theorem Room.mark {k : Nat} {A : Around} (r : Room k A) (v : Option Value) : RoomQ k (A.mark v) := ⟨r.dp, r.un⟩
def cxQ (P : Program) (w : World) (K : PySem.W.Frag) (mg : Str → Option Value) (base : Heap) (N : List Str) (qual : Str) (scope : Scope) (f : Addr) (cd : Value) (A : Around) (outer : List Env) (s : Shared) (H : Hp) : Cx :=
  { cxOf CX0 P w K mg base N qual scope f cd A outer s H E0 with calm := false, xe := fun _ _ => False }
structure FnQ (P : Program) (w : World) (K : PySem.W.Frag) (mg : Str → Option Value) (base : Heap) (k : Nat) (f : Addr) (fd : FuncData) (ps : List Str) (sp : Sp) : Prop where
  len : ∀ vs H Q E, sp vs H Q E → vs.length = ps.length
  run : ∀ (A : Around) (outer : List Env) (s : Shared) (H : Hp) (args : Args) (us : List Value) (vs : List V) (Q : VK), RoomQ k A → Env0 P w K mg base A outer s H → BindsTo s fd args (ps.zip us) → Vals vs us → sp vs H Q E0 →
    codeAny (model P w) A (.call (.ref f) args) (CR CX0 outer P w H s Q E0) s
theorem inv_startQ {P : Program} {w : World} {K : PySem.W.Frag} {mg : Str → Option Value} {base : Heap} {N ps : List Str} {qual : Str} {scope : Scope} {f : Addr} {cd : Value} {A : Around} {outer : List Env} {s s1 : Shared} {H : Hp} {us : List Value} {vs : List V}
    (S : FnScope N ps scope) (e0 : Env0 P w K mg base A outer s H) (hl : vs.length = ps.length) (r : Vals vs us)
    (x : InCallC s s.heap.objs.size (bindL (envOfC qual scope s.heap.objs.size f cd).kindOf (ps.zip us) fun _ => none) (cellsFrom (s.heap.objs.size + 1) scope.names []) (bindC (envOfC qual scope s.heap.objs.size f cd).kindOf (ps.zip us) fun _ => none) s1) :
    Inv (cxQ P w K mg base N qual scope f cd A outer s H) [] (start N vs) H s1 := by
  have e1 : Env0 P w K mg base { A with handled := none } outer s H := ⟨e0.frames, e0.mod, e0.bs, e0.bsz, e0.funs, e0.frf, e0.hok, e0.bare⟩
  have I := inv_start (CX := CX0) (E := E0) S rfl e1 hl r x
  have ok := I.ok
  exact ⟨⟨ok.mod, ok.kind, ok.glob, ok.blt, ok.above, ok.inj, ok.has, ok.cab, fun z => (nomatch z), Around.frames_deeper e0.frames, ok.stk, ok.exf, ok.bs, ok.bsz, ok.noex, ok.exfs, ok.funs, ok.frf⟩, I.os, I.bare, I.base, I.loc, I.cell, I.free, I.freeC, I.pin, I.hok, I.len⟩
theorem fn_ofQ {P : Program} {w : World} {K : PySem.W.Frag} {mg : Str → Option Value} {base : Heap} {k : Nat} {f : Addr} {name qual : Str} {params : Arguments} {body : List Stmt} {scope : Scope} {dV kV doc pm cdv ct oc : Value} {an od : Option Addr}
    {osl : Array (Option Value)} {N ps : List Str} {sp : Sp} (lk : K.lookup f = some ⟨oc, od, .func (PySem.W.fnOf name qual params body scope dV kV doc pm an cdv ct), osl⟩) (hcd : PySem.W.codeIn K cdv qual = true) (S : FnScope N ps scope)
    (len : ∀ vs H Q E, sp vs H Q E → vs.length = ps.length)
    (hbody : ∀ (A : Around) (outer : List Env) (s : Shared) (H : Hp) (vs : List V) (Q : VK), RoomQ k (A.deeper (envOfC qual scope s.heap.objs.size f cdv)) → sp vs H Q E0 →
      ∃ t, PSs (cxQ P w K mg base N qual scope f cdv A outer s H) body t ∧ t { nx := fun _ H' => Q .non H', rt := Q } (start N vs) H) :
    FnQ P w K mg base (k + 1) f (PySem.W.fnOf name qual params body scope dV kV doc pm an cdv ct) ps sp := by
  refine ⟨len, fun A outer s H args us vs Q hr e0 hb r hsp => ?_⟩
  have hl := len _ _ _ _ hsp
  have KX : K.In s.heap := e0.mod.kin.keeps fun b o e => (e0.bs b o e).1
  have lim : s.heap.NoLimit := e0.mod.nolimit.keeps fun b o e => (e0.bs b o e).1
  have hkind : ∀ y ∈ ps.zip us, scope.names.lookup y.1 = some .local ∨ (scope.names.lookup y.1 = some .cell ∧ ((cellsFrom (s.heap.objs.size + 1) scope.names []).lookup y.1).isSome = true) := fun ⟨n, v⟩ hy => by
    rcases S.par n (List.of_mem_zip hy).1 with q | q
    · exact .inl q
    · exact .inr ⟨q, PySem.W.cellsFrom_some _ _ _ (.inl q)⟩
  refine codeAny_call_function (by have := hr.dp; omega) (KX _ _ lk) rfl S.co S.gen rfl (PySem.W.codeRec_of KX hcd) (hb _ _ _ _ ?_)
  refine wpAny_newFunctionEnv_cells S.kind hkind fun env he s1 x => ?_
  subst he
  refine ⟨lim.keeps x.toInCall.keep, codeAny_func ?_⟩
  obtain ⟨t, ht, hq⟩ := hbody A outer s H vs Q (hr.deeper _) hsp
  have I : Inv (cxQ P w K mg base N qual scope f cdv A outer s H) [] (start N vs) H s1 := inv_startQ S e0 hl r x
  refine wpAny_mono (ht [] s1 (start N vs) H _ I hq) (fun fl s' hs => ?_) fun e s' hs => False.elim hs
  have fin : ∀ {σ' : St} {H' : Hp} {v : V} {u : Value}, Inv (cxQ P w K mg base N qual scope f cdv A outer s H) [] σ' H' s' → RelV v u → Q v H' → CE outer P w H s Q u s' :=
    fun {σ' H' v u} J rv q => ⟨v, H', J.os, J.bare, J.base, J.hok, rv, q⟩
  cases fl with
  | ret u =>
    obtain ⟨v, σ', H', J, rv, q⟩ := hs
    exact fin J rv q
  | next =>
    obtain ⟨σ', H', J, q⟩ := hs
    exact fin (v := V.non) (u := Value.none) J rfl q
  | brk =>
    obtain ⟨_, _, _, q⟩ := hs
    exact False.elim q
  | cont =>
    obtain ⟨_, _, _, q⟩ := hs
    exact False.elim q
theorem Fun.okQ {P : Program} {w : World} {K : PySem.W.Frag} {mg : Str → Option Value} {base : Heap} {x qual : Str} {st : Stmt} {f : Addr} {fd : FuncData} {N ps : List Str} {k : Nat} {sp : Sp} (F : Fun K x qual st f fd) (S : FnScope N ps (defScope st)) (len : ∀ vs H Q E, sp vs H Q E → vs.length = ps.length)
    (hbody : ∀ (cdv : Value) (A : Around) (outer : List Env) (s : Shared) (H : Hp) (vs : List V) (Q : VK), RoomQ k (A.deeper (envOfC qual (defScope st) s.heap.objs.size f cdv)) → sp vs H Q E0 →
      ∃ t, PSs (cxQ P w K mg base N qual (defScope st) f cdv A outer s H) (defBody st) t ∧ t { nx := fun _ H' => Q .non H', rt := Q } (start N vs) H) : FnQ P w K mg base (k + 1) f fd ps sp := by
  obtain ⟨oc, od, kV, doc, pm, an, cdv, ct, osl, rfl, lk, hcd⟩ := F.ex
  exact fn_ofQ lk hcd S len fun A outer s H vs Q hr hsp => hbody cdv A outer s H vs Q hr hsp
section
variable {X : Cx} {k j : Nat} {f : Addr} {fd : FuncData} {ps : List Str} {sp : Sp} {x : Str} {st : Stmt} {p pos : Pos} {e : Expr} {es : List Expr} {t : TA}
theorem pe_fnQ (T : Fn X.K X.mg x st f fd ps) (G : FnQ X.prog X.w X.K X.mg X.base k f fd ps sp) (hr : RoomQ j X.A) (hj : k ≤ j) (ha : PA X (e :: es) t) (hg : Gl X x := by rfl) (hdb : (x == ("__debug__" : Str)) = false := by decide)
    (he : starEach (e :: es) X.env = (false, eval e X.env) :: starEach es X.env := by rfl) (hpl : (backTo pos (starEach es X.env)).any (·.1) = false := by rfl) : PE X (.Call (.Name x p) (e :: es) [] pos) (tCall sp [] E0 t) := by
  intro pins s σ H Q I h
  refine wpAny_Call_Name_kw (ld_glob I hg T.m ?_ hdb)
  refine PySem.W.callWith_K (h₀ := X.base) I.ok.mod.kin T.F.kp (thn (ha pos pins s σ H _ I h) fun us s1 ⟨vs, H1, I1, r, q⟩ => ⟨I1.kIn, ?_⟩) he hpl
  have q' : sp vs H1 Q E0 := by
    have z : sp (vs ++ []) H1 Q E0 := q
    rwa [List.append_nil] at z
  have hl : (us ++ []).length = ps.length := by rw [List.append_nil, ← r.length]; exact G.len _ _ _ _ q'
  have hbd := T.b s1 us I1.kIn hl
  rw [List.append_nil] at hbd
  refine wpAny_call (codeAny_mono (G.run X.A X.stack s1 H1 ⟨us, []⟩ us vs Q (hr.mono hj) I1.env0 hbd r q') fun r s' hq => ?_)
  cases r with
  | error e => exact False.elim hq
  | ok fl =>
    cases fl with
    | ret u => exact I1.after hq
    | next => exact False.elim hq
    | brk => exact False.elim hq
    | cont => exact False.elim hq
end
end L2

set_option linter.all false
set_option maxRecDepth 100000
set_option maxHeartbeats 1000000
namespace L2
open PySem PySem.Spec PyProof.Rows PySem.W PySem.SeqAt PyProof.V
def rNotInT (K : PySem.W.Frag) : V → V → Hp → VK → Prop := fun x y H Q => ∃ p ys nss ns, y = .ref p ∧ SqL K H p ys ∧ Paired (TupI K H) ys nss ∧ TupI K H x ns ∧ Q (.bl (!decide (ns ∈ nss))) H
section
variable {X : Cx}
theorem op_notInT (hu : X.A.units + 65 < cLine) : OpR X (compareOp .NotIn) (rNotInT X.K) := by
  intro pins s σ H x y v u Q I rx ry h
  obtain ⟨p, ys, nss, ns, rfl, hq, pt, tx, q⟩ := h
  cases ry
  obtain ⟨its, r, pl, hz⟩ := I.list hq
  obtain ⟨h1, h2⟩ := hit_any (ns := ns) I r pt
  refine SeqAt.notIn_listAt (hitT X.K H ns) pl.isList (fun w hw => ?_) ⟨.bl _, H, I, rfl, ?_⟩
  · obtain ⟨z, ms, rz, tz, e⟩ := h2 w (by simpa using hw)
    rw [e]
    obtain ⟨a, rfl, ha⟩ := id tz
    obtain ⟨b, rfl, hb⟩ := id tx
    cases rz
    cases rx
    by_cases hab : a = b
    · subst hab
      have e2 : ms = ns := map_int_inj (I.tuple_inj ha hb)
      rw [decide_eq_true e2]
      exact SeqAt.EqAt.same _
    · refine SeqAt.EqAt.of_refs hab fun prog w E Q' hq' => ?_
      refine eq_dataH_same (I.tupI (v := .ref a) rfl tz) (I.tupI (v := .ref b) rfl tx) (shaped_ti ms) (shaped_ti ns) (by show X.A.units + 1 + 64 < _; omega) (by simp only [noMix]; exact PySem.W.noMix_ints ms ns) ?_
      rw [show PySem.Spec.same (PyData.tuple (ms.map PyData.int)) (PyData.tuple (ns.map PyData.int)) = decide (ms = ns) by simp only [PySem.Spec.same]; rw [PySem.W.same_ints]]
      exact hq'
  · rw [show its.toArray.any (hitT X.K H ns) = its.any (hitT X.K H ns) by simp, h1]
    exact q
end
theorem pu_notInT {K : PySem.W.Frag} {σ : St} {H : Hp} {ta tb : TE} {x : V} {l : Addr} {ys : List V} {nss : List (List Int)} {ns : List Int} (hx : Pu ta σ H x) (hl : Pu tb σ H (.ref l)) (h : H l = some (.lst ys)) (ht : TupsT H ys nss) (tx : TupT H x ns) : Pu (tOp (rNotInT K) ta tb) σ H (.bl (!decide (ns ∈ nss))) := fun Q q =>
  hx _ (hl _ ⟨l, ys, nss, ns, rfl, .of h, ht.i, tx.i, q⟩)
theorem three_mem {α : Type} {a b c : α} {l : List α} (ha : a ∈ l) (hb : b ∈ l) (hc : c ∈ l) (h1 : a ≠ b) (h2 : b ≠ c) (h3 : a ≠ c) : 3 ≤ l.length := by
  match l with
  | [] => cases ha
  | [x] =>
    simp at ha hb
    exact absurd (ha.trans hb.symm) h1
  | [x, y] =>
    simp at ha hb hc
    rcases ha with rfl | rfl <;> rcases hb with rfl | rfl <;> rcases hc with rfl | rfl <;> first | exact absurd rfl h1 | exact absurd rfl h2 | exact absurd rfl h3
  | _ :: _ :: _ :: _ => simp
end L2

set_option linter.all false
set_option maxRecDepth 100000
set_option maxHeartbeats 1000000
namespace L2
open PySem PySem.Spec PyProof.Rows PySem.SeqAt PyProof.V
/-! ### displays of things, told for many lists at once -/
def DSt (S : Addr → Prop) (H : Hp) (v : V) (d : D) : Prop := ∀ s, S s → DAt s H v d
def DsSt (S : Addr → Prop) (H : Hp) (vs : List V) (ds : List D) : Prop := ∀ s, S s → DsAt s H vs ds
theorem DSt.same {S : Addr → Prop} {H H' : Hp} {v : V} {d : D} (h : DSt S H v d) (s : Same H H') : DSt S H' v d := fun a ha => (h a ha).same s
theorem DsSt.same {S : Addr → Prop} {H H' : Hp} {vs : List V} {ds : List D} (h : DsSt S H vs ds) (s : Same H H') : DsSt S H' vs ds := fun a ha => (h a ha).same s
def DES (S : Addr → Prop) (σ : St) (H0 : Hp) (te : TE) (d : D) : Prop := ∀ H', Same H0 H' → Gv te σ H' (fun v H2 => Same H' H2 ∧ DSt S H2 v d)
def DAS (S : Addr → Prop) (σ : St) (H0 : Hp) (ta : TA) (ds : List D) : Prop := ∀ H', Same H0 H' → GvA ta σ H' (fun vs H2 => Same H' H2 ∧ vs.length = ds.length ∧ DsSt S H2 vs ds)
section
variable {S : Addr → Prop} {σ : St} {H0 : Hp} {te te' : TE} {ta : TA} {d : D} {ds ds' : List D}
theorem es_s {x : Str} (h : (∀ c ∈ x.cps.toList, c < 128) ∧ x.length ≤ 1000) : DES S σ H0 (tC (.str x)) (.str x) := fun H' s => Pu.gv' pu_c ⟨Same.rfl', fun _ _ => .str x h⟩
theorem es_i {n : Int} : DES S σ H0 (tC (.int n)) (.int n) := fun H' s => Pu.gv' pu_c ⟨Same.rfl', fun _ _ => .int n⟩
theorem es_b {b : Bool} : DES S σ H0 (tC (.bl b)) (.bl b) := fun H' s => Pu.gv' pu_c ⟨Same.rfl', fun _ _ => .bl b⟩
theorem es_n : DES S σ H0 (tC .non) .non := fun H' s => Pu.gv' pu_c ⟨Same.rfl', fun _ _ => .non⟩
theorem es_p {v : V} (h : ∀ H', Same H0 H' → Pu te σ H' v) (hv : ∀ H', Same H0 H' → DSt S H' v d) : DES S σ H0 te d := fun H' s => Pu.gv' (h H' s) ⟨Same.rfl', hv H' s⟩
theorem es_disp {trs : List (TE × TE)} {kvs : List (Key × V)} (h : ∀ (H : Hp) (Q : List (V × V) → Hp → Prop), Same H0 H → Q (kvs.map fun kv => (kV kv.1, kv.2)) H → tPairs trs σ H Q) (hl : kvs.length ≤ 15) : DES S σ H0 (tDisp trs) .dct := fun H' s Q q p hp => h _ _ (s.trans (Same.upd hp)) ⟨upd_same, kvs, rfl, hl, by
  rw [upd_upd]
  exact q _ _ ⟨Same.upd hp, fun _ _ => .dct upd_same⟩⟩
theorem as_n : DAS S σ H0 tNil [] := fun H' s Q q => q _ _ ⟨Same.rfl', rfl, fun _ _ => .nil⟩
theorem as_c (h : DES S σ H0 te d) (t : DAS S σ H0 ta ds) : DAS S σ H0 (tCons te ta) (d :: ds) := fun H' s Q q => h H' s _ fun v H1 r => t H1 (s.trans r.1) _ fun vs H2 r' => q _ _ ⟨r.1.trans r'.1, by rw [List.length_cons, List.length_cons, r'.2.1], fun a ha => .cons ((r.2 a ha).same r'.1) (r'.2.2 a ha)⟩
theorem es_tup (h : DAS S σ H0 ta ds) (hz : ds.length ≤ 1000 := by simp) : DES S σ H0 (tTup ta) (.tup ds) := fun H' s => gv_tupA (h H' s) fun vs H1 r => ⟨by rw [r.2.1]; exact Nat.le_trans hz (by decide), fun p hp => ⟨r.1.trans (Same.upd hp), fun a ha => .tup upd_same ((r.2.2 a ha).same (Same.upd hp))⟩⟩
theorem es_lst (ho : ∀ s, S s → H0 s ≠ none) (h : DAS S σ H0 ta ds) (hz : ds.length ≤ 1000 := by simp) : DES S σ H0 (tLst ta) (.lst ds) := fun H' s => gv_lstA (h H' s) fun vs H1 r => ⟨by rw [r.2.1]; exact Nat.le_trans hz (by decide), fun p hp => ⟨r.1.trans (Same.upd hp), fun a ha => .lst upd_same (fun e => ho a ha (by rw [← e]; exact same_none (s.trans r.1) hp)) ((r.2.2 a ha).same (Same.upd hp))⟩⟩
theorem gv_lstS {H : Hp} (h : DAS S σ H ta ds) (hz : ds.length ≤ 1000 := by simp) : Gv (tLst ta) σ H (fun v H' => ∃ p xs, v = .ref p ∧ H p = none ∧ Same H H' ∧ H' p = some (.lst xs) ∧ xs.length = ds.length ∧ DsSt S H' xs ds) := fun Q q =>
  h H Same.rfl' _ fun vs H1 r => ⟨by rw [r.2.1]; exact Nat.le_trans hz (by decide), fun p hp => q _ _ ⟨p, vs, rfl, same_none r.1 hp, r.1.trans (Same.upd hp), upd_same, r.2.1, r.2.2.same (Same.upd hp)⟩⟩
/-- some = some + [..] -/
theorem gv_catS {H : Hp} {i : Nat} {p : Addr} {xs : List V} {es : List D} (hv : σ[i]? = some (some (.ref p))) (hp : H p = some (.lst xs)) (hl : xs.length = ds.length) (t : DsSt S H xs ds) (ha : DAS S σ H ta es) (hz : ds.length + es.length ≤ 1000) :
    Gv (tOp rCat (tVar i) (tLst ta)) σ H (fun v H' => ∃ q ys, v = .ref q ∧ H q = none ∧ Same H H' ∧ H' q = some (.lst ys) ∧ ys.length = (ds ++ es).length ∧ DsSt S H' ys (ds ++ es)) := fun Q g => by
  dsimp only [tOp]
  refine pu_v hv _ (gv_lstS ha (by omega) _ ?_)
  rintro _ H5 ⟨p2, xs2, rfl, hp2, s5, hp5, l5, t5⟩
  exact ⟨p, p2, xs, xs2, rfl, rfl, s5 _ _ hp, hp5, Nat.le_trans (by rw [hl, l5]; exact hz) (by decide), fun p3 hp3 => g _ _ ⟨p3, _, rfl, same_none s5 hp3, s5.trans (Same.upd hp3), upd_same, by rw [List.length_append, List.length_append, hl, l5], fun a h => ds_app ((t a h).same (s5.trans (Same.upd hp3))) ((t5 a h).same (Same.upd hp3))⟩⟩
end
/-! ### == of a thing and its copy -/
def CpAt (H : Hp) (x y : V) : Prop := x = y ∨ ∃ a b xs ys, x = .ref a ∧ y = .ref b ∧ H a = some (.lst xs) ∧ H b = some (.lst ys) ∧ xs.length = ys.length ∧ ∀ (i : Nat) u v, xs[i]? = some u → ys[i]? = some v → u = v ∨ ∃ p q zs, u = .ref p ∧ v = .ref q ∧ H p = some (.lst zs) ∧ H q = some (.lst zs)
theorem CpAt.same {H H' : Hp} {x y : V} (h : CpAt H x y) (s : Same H H') : CpAt H' x y := by
  rcases h with rfl | ⟨a, b, xs, ys, rfl, rfl, h1, h2, h3, h4⟩
  · exact .inl rfl
  · refine .inr ⟨a, b, xs, ys, rfl, rfl, s _ _ h1, s _ _ h2, h3, fun i u v hu hv => ?_⟩
    rcases h4 i u v hu hv with e | ⟨p, q, zs, e1, e2, e3, e4⟩
    · exact .inl e
    · exact .inr ⟨p, q, zs, e1, e2, s _ _ e3, s _ _ e4⟩
section
variable {X : Cx} {hd : Addr} {H : Hp}
theorem eqAt_D {A : Around} {s : Shared} {v : V} {d : D} {u w : Value} (h : DAt hd H v d) (r1 : RelV v u) (r2 : RelV v w) : SeqAt.EqAt A s u w true := by
  cases h with
  | non => cases r1; cases r2; exact SeqAt.EqAt.same _
  | bl b => cases r1; cases r2; exact SeqAt.EqAt.same _
  | int n =>
    obtain ⟨t, rfl⟩ := (show ∃ t, u = Value.int n t from r1)
    obtain ⟨t', rfl⟩ := (show ∃ t, w = Value.int n t from r2)
    have := SeqAt.EqAt.int_int (A := A) (s := s) n t n t'
    simpa using this
  | str x hx =>
    obtain ⟨t, rfl⟩ := (show ∃ t, u = Value.str x t from r1)
    obtain ⟨t', rfl⟩ := (show ∃ t, w = Value.str x t from r2)
    have := SeqAt.EqAt.str_str (A := A) (s := s) x t x t'
    simpa using this
  | tup h t => cases r1; cases r2; exact SeqAt.EqAt.same _
  | lst h n t => cases r1; cases r2; exact SeqAt.EqAt.same _
  | dct h => cases r1; cases r2; exact SeqAt.EqAt.same _
theorem Vals.at {xs : List V} {us : List Value} (r : Vals xs us) {j : Nat} (h : j < us.length) : ∃ x, xs[j]? = some x ∧ RelV x us[j] := by
  induction r generalizing j with
  | nil => simp at h
  | cons a t ih =>
    cases j with
    | zero => exact ⟨_, rfl, a⟩
    | succ j =>
      obtain ⟨x, h1, h2⟩ := ih (j := j) (by simpa using h)
      exact ⟨x, by simpa using h1, by simpa using h2⟩
theorem hits_same {A : Around} {s : Shared} {kb : List (Key × Value)} (nd : (kb.map (·.1)).Nodup) {ka : List (Key × Value)} (h : ∀ p ∈ ka, p ∈ kb) : PySem.W.KeqHits A s kb ka true := by
  induction ka with
  | nil => exact .nil
  | cons p r ih =>
    have hq := h p (by simp)
    have hv : valueAt kb p.1 = some p.2 := by
      clear ih h
      induction kb with
      | nil => simp at hq
      | cons a kb ih =>
        have nd' : a.1 ∉ kb.map (·.1) ∧ (kb.map (·.1)).Nodup := List.nodup_cons.mp nd
        unfold valueAt
        rcases List.mem_cons.mp hq with rfl | hq
        · simp
        · have ne : a.1 ≠ p.1 := fun z => nd'.1 (z ▸ List.mem_map_of_mem hq)
          have := ih nd'.2 hq
          unfold valueAt at this
          simp [List.find?_cons, ne, this]
    obtain ⟨k, v⟩ := p
    have := PySem.W.KeqHits.hit (A := A) (s := s) (k := k) (v := v) hv (SeqAt.EqAt.same _) (ih fun p hp => h p (by simp [hp]))
    simpa using this
theorem all_tt (n : Nat) : (List.range n).all (fun _ => true) = true := by simp
theorem op_eqC (hu : X.A.units + 64 < cLine) : OpR X (compareOp .Eq) (fun x y H Q => ∃ hd d, DAt hd H x d ∧ CpAt H x y ∧ Q (.bl true) H) := by
  intro pins s σ H x y v u Q I rx ry h
  obtain ⟨hd, d, h1, c, q⟩ := h
  have hu1 : X.A.units < cLine := by omega
  rcases c with rfl | ⟨a, b, xs, ys, rfl, rfl, ha, hb, hl, he⟩
  · cases h1 with
    | non => exact op_eq pins s σ H _ _ v u Q I rx ry ⟨rfl, by rw [decide_eq_true rfl]; exact q⟩
    | bl b => exact op_eq pins s σ H _ _ v u Q I rx ry ⟨rfl, by rw [decide_eq_true rfl]; exact q⟩
    | int n => exact op_eq pins s σ H _ _ v u Q I rx ry ⟨rfl, by rw [decide_eq_true rfl]; exact q⟩
    | str z hz => exact op_eq pins s σ H _ _ v u Q I rx ry ⟨rfl, by rw [decide_eq_true rfl]; exact q⟩
    | @tup a zs ds h t =>
      cases rx
      cases ry
      obtain ⟨its, rv, p, _⟩ := I.tuple (SqT.of (K := X.K) h)
      refine SeqAt.eq_tupleAt (e := fun _ => true) p p hu1 (fun j _ _ => SeqAt.EqAt.same _) ?_
      simp only [all_tt, beq_self_eq_true, Bool.and_self]
      exact ⟨.bl true, H, I, rfl, q⟩
    | @lst a zs ds h n t =>
      cases rx
      cases ry
      obtain ⟨its, rv, pl, _⟩ := I.list (SqL.of (K := X.K) h)
      refine SeqAt.eq_listAt (e := fun _ => true) pl.isList pl.isList rfl hu1 (fun j _ _ => SeqAt.EqAt.same _) ?_
      rw [all_tt]
      exact ⟨.bl true, H, I, rfl, q⟩
    | @dct a kvs h =>
      cases rx
      cases ry
      obtain ⟨_, sa, vs, ra, da⟩ := dk_of I.hok h
      obtain ⟨ep, db'⟩ := da.dictAt
      refine PySem.W.keq_eq (r := true) sa sa da da hu1 (fun _ => hits_same db'.nodup fun p hp => hp) ?_
      simp only [beq_self_eq_true, Bool.and_true]
      exact ⟨.bl true, H, I, rfl, q⟩
  · cases rx
    cases ry
    obtain ⟨its, rv, pl, _⟩ := I.list (SqL.of (K := X.K) ha)
    obtain ⟨its', rv', pl', _⟩ := I.list (SqL.of (K := X.K) hb)
    have l1 := rv.length
    have l2 := rv'.length
    refine SeqAt.eq_listAt (e := fun _ => true) pl.isList pl'.isList (by simp; omega) hu1 (fun j z1 z2 => ?_) ?_
    · have z1' : j < its.length := by simpa using z1
      have z2' : j < its'.length := by simpa using z2
      obtain ⟨x1, e1, r1⟩ := Vals.at rv z1'
      obtain ⟨x2, e2, r2⟩ := Vals.at rv' z2'
      have g1 : its.toArray[j] = its[j] := by simp
      have g2 : its'.toArray[j] = its'[j] := by simp
      rw [g1, g2]
      rcases he j x1 x2 e1 e2 with e | ⟨p, q', zs, f1, f2, f3, f4⟩
      · subst e
        cases h1 with
        | @lst _ zs ds h n t =>
          rw [ha] at h
          cases h
          obtain ⟨d1, _, t1⟩ := t.get e1
          exact eqAt_D t1 r1 r2
        | @tup _ zs ds h t => rw [ha] at h; cases h
        | @dct _ kvs h => rw [ha] at h; cases h
      · subst f1 f2
        rw [show its[j] = Value.ref p from r1, show its'[j] = Value.ref q' from r2]
        by_cases hpq : p = q'
        · subst hpq; exact SeqAt.EqAt.same _
        obtain ⟨us, rw1, pl1, _⟩ := I.list (SqL.of (K := X.K) f3)
        obtain ⟨us', rw2, pl2, _⟩ := I.list (SqL.of (K := X.K) f4)
        have l3 := rw1.length
        have l4 := rw2.length
        have hin : X.A.in1.units < cLine := by show X.A.units + 1 < cLine; omega
        cases h1 with
        | @lst _ zs0 ds h n t =>
          rw [ha] at h
          cases h
          obtain ⟨d1, _, t1⟩ := t.get e1
          cases t1 with
          | @lst _ zs1 ds1 h' n' t' =>
            rw [f3] at h'
            cases h'
            have := SeqAt.RcAt.lists (A := X.A.in1) (e := fun _ => true) pl1.isList pl2.isList (by simp; omega) hin (fun k y1 y2 => by
              have y1' : k < us.length := by simpa using y1
              have y2' : k < us'.length := by simpa using y2
              obtain ⟨x3, e3, r3⟩ := Vals.at rw1 y1'
              obtain ⟨x4, e4, r4⟩ := Vals.at rw2 y2'
              rw [e3] at e4
              cases e4
              obtain ⟨d2, _, t2⟩ := t'.get e3
              have k1 : us.toArray[k] = us[k] := by simp
              have k2 : us'.toArray[k] = us'[k] := by simp
              rw [k1, k2]
              exact eqAt_D t2 r3 r4)
            rw [all_tt] at this
            exact SeqAt.EqAt.of_refs hpq this
          | @tup _ zs ds h t => rw [f3] at h; cases h
          | @dct _ kvs h => rw [f3] at h; cases h
        | @tup _ zs ds h t => rw [ha] at h; cases h
        | @dct _ kvs h => rw [ha] at h; cases h
    · rw [all_tt]
      exact ⟨.bl true, H, I, rfl, q⟩
/-- none is none, and tuples of the same numbers are alike -/
theorem op_eqR (hu : X.A.units + 64 < cLine) : OpR X (compareOp .Eq) (fun x y H Q => ((x = .non ∧ y = .non) ∨ ∃ ns, TupT H x ns ∧ TupT H y ns) ∧ Q (.bl true) H) := by
  intro pins s σ H x y v u Q I rx ry h
  obtain ⟨h | ⟨ns, h1, h2⟩, q⟩ := h
  · obtain ⟨rfl, rfl⟩ := h
    exact op_eq pins s σ H _ _ v u Q I rx ry ⟨rfl, by rw [decide_eq_true rfl]; exact q⟩
  · exact op_eqTI hu pins s σ H _ _ v u Q I rx ry ⟨ns, ns, h1.i, h2.i, by rw [decide_eq_true rfl]; exact q⟩
theorem call_isinstB {K : PySem.W.Frag} (hK : X.K = K) : CallR X (.builtin "isinstance") (fun xs H Q => ∃ x n t b, xs = [x, .ty n] ∧ TyOf K H x t ∧ PySem.W.kitOne K t (.type n) = some b ∧ Q (.bl b) H) := by
  subst hK; exact call_isinst
end
section
variable {σ : St} {H : Hp} {D : Ends} {rest : TS} {te to ti : TE} {p : Addr} {k : Int}
theorem st_putG1 {R : V → Hp → Prop} (h : Gv te σ H R) (q : ∀ v H', R v H' → Pu to σ H' (.ref p) ∧ Pu ti σ H' (.int k) ∧ ∃ xs j, H' p = some (.lst xs) ∧ ixN xs.length k = some j ∧ D.nx σ (upd H' p (.lst (xs.set j v)))) : tAsg te (gSub to ti rSetL) D σ H :=
  h _ fun v H' r => by
    obtain ⟨h1, h2, xs, j, h3, h4, h5⟩ := q v H' r
    exact h1 _ (h2 _ ⟨p, xs, k, j, rfl, rfl, h3, h4, h5⟩)
end
theorem DsSt.keep {W : Addr → Prop} {H H' : Hp} {D : Addr} {zs ys : List V} {es : List L2.D} (h : DsSt W H ys es) (w : W D) (hD : H D = some (.lst zs)) (s : SameB D H H') : DsSt W H' ys es := fun a ha => DsAt.butD hD s (h a ha) (h D w)
theorem DSt.keep {W : Addr → Prop} {H H' : Hp} {D : Addr} {zs : List V} {y : V} {e : L2.D} (h : DSt W H y e) (w : W D) (hD : H D = some (.lst zs)) (s : SameB D H H') : DSt W H' y e := fun a ha => DAt.butD hD s (h a ha) (h D w)
mutual
theorem DAt.fresh {hd q : Addr} {H : Hp} (hq : H q = none) : ∀ {v : V} {d : L2.D}, DAt hd H v d → DAt q H v d
  | _, _, .non => .non
  | _, _, .bl b => .bl b
  | _, _, .int n => .int n
  | _, _, .str x h => .str x h
  | _, _, .tup h t => .tup h (DsAt.fresh hq t)
  | _, _, .lst h n t => .lst h (fun e => by rw [e, hq] at h; cases h) (DsAt.fresh hq t)
  | _, _, .dct h => .dct h
theorem DsAt.fresh {hd q : Addr} {H : Hp} (hq : H q = none) : ∀ {vs : List V} {ds : List L2.D}, DsAt hd H vs ds → DsAt q H vs ds
  | _, _, .nil => .nil
  | _, _, .cons h t => .cons (DAt.fresh hq h) (DsAt.fresh hq t)
end
/-- all but lists that may be written is as it was -/
def FW (W : Addr → Prop) (H H' : Hp) : Prop := ∀ b o, H b = some o → ¬ W b → H' b = some o
theorem FW.trans {W : Addr → Prop} {H H1 H2 : Hp} (a : FW W H H1) (b : FW W H1 H2) : FW W H H2 := fun c o h n => b c o (a c o h n) n
theorem Same.fw {W : Addr → Prop} {H H1 : Hp} (a : Same H H1) : FW W H H1 := fun c o h _ => a c o h
theorem SameB.fw {W : Addr → Prop} {H H1 : Hp} {D : Addr} (a : SameB D H H1) (w : W D) : FW W H H1 := fun c o h n => a c o h fun e => n (e ▸ w)
theorem ds_take {hd : Addr} {H : Hp} : ∀ {vs : List V} {ds : List D} (n : Nat), DsAt hd H vs ds → DsAt hd H (vs.take n) (ds.take n)
  | _, _, 0, _ => by rw [List.take_zero, List.take_zero]; exact .nil
  | _, _, n + 1, .nil => by rw [List.take_nil, List.take_nil]; exact .nil
  | _, _, n + 1, .cons h t => .cons h (ds_take n t)
end L2

set_option maxHeartbeats 4000000
namespace My
open PySem PySem.Spec PyProof.Rows L2
def top (i : Nat) : Stmt := PySem.Challenge.pw_plymap_k21_layers_refused.main.body.getD i (.Pass ⟨0, 0, 0, 0⟩)
def s_BadLayer_init : Stmt := inClass (top 3) 0
def s_is_whole : Stmt := top 7
def s_divisor_of : Stmt := top 8
def s_is_point : Stmt := top 10
def s_is_list_of : Stmt := top 17
def s_is_layer_point : Stmt := top 18
def s_check_ring : Stmt := top 19
def s_layer_of : Stmt := top 20
def s_l_hand : Stmt := top 22
def s_l_next : Stmt := top 23
def s_l_take : Stmt := top 24
def s_l_draw : Stmt := top 25
def s_l_divisor : Stmt := top 26
def s_l_point : Stmt := top 27
def s_l_whole : Stmt := top 28
def s_l_far : Stmt := top 29
def s_l_unlike : Stmt := top 30
def s_l_ring : Stmt := top 31
def s_l_no_point : Stmt := top 32
def s_l_within : Stmt := top 34
def s_l_spoil : Stmt := top 33
def s_l_fault : Stmt := top 35
def s_l_alike : Stmt := top 36
def s_l_refused : Stmt := top 37
def s_l_by_base : Stmt := top 38
def s_l_copy : Stmt := top 39
def s_l_taken : Stmt := top 40
def s_law : Stmt := top 41
structure Adr where
  f_BadLayer_init : Addr
  d_BadLayer_init : FuncData
  f_is_whole : Addr
  d_is_whole : FuncData
  f_divisor_of : Addr
  d_divisor_of : FuncData
  f_is_point : Addr
  d_is_point : FuncData
  f_is_list_of : Addr
  d_is_list_of : FuncData
  f_is_layer_point : Addr
  d_is_layer_point : FuncData
  f_check_ring : Addr
  d_check_ring : FuncData
  f_layer_of : Addr
  d_layer_of : FuncData
  f_l_hand : Addr
  d_l_hand : FuncData
  f_l_next : Addr
  d_l_next : FuncData
  f_l_take : Addr
  d_l_take : FuncData
  f_l_draw : Addr
  d_l_draw : FuncData
  f_l_divisor : Addr
  d_l_divisor : FuncData
  f_l_point : Addr
  d_l_point : FuncData
  f_l_whole : Addr
  d_l_whole : FuncData
  f_l_far : Addr
  d_l_far : FuncData
  f_l_unlike : Addr
  d_l_unlike : FuncData
  f_l_ring : Addr
  d_l_ring : FuncData
  f_l_no_point : Addr
  d_l_no_point : FuncData
  f_l_within : Addr
  d_l_within : FuncData
  f_l_spoil : Addr
  d_l_spoil : FuncData
  f_l_fault : Addr
  d_l_fault : FuncData
  f_l_alike : Addr
  d_l_alike : FuncData
  f_l_refused : Addr
  d_l_refused : FuncData
  f_l_by_base : Addr
  d_l_by_base : FuncData
  f_l_copy : Addr
  d_l_copy : FuncData
  f_l_taken : Addr
  d_l_taken : FuncData
  f_law : Addr
  d_law : FuncData
  c_PlyError : Addr
  c_NoPoint : Addr
  c_BadPlan : Addr
  c_BadLayer : Addr
  c_TooMany : Addr
structure Txt (K : PySem.W.Frag) (mg : Str → Option Value) (t : Adr) : Prop where
  BadLayer_init : FnI K "__init__" "BadLayer.__init__" s_BadLayer_init t.f_BadLayer_init t.d_BadLayer_init ["self", "ring", "at"]
  is_whole : Fn K mg "is_whole" s_is_whole t.f_is_whole t.d_is_whole ["thing"]
  divisor_of : Fn K mg "divisor_of" s_divisor_of t.f_divisor_of t.d_divisor_of ["one", "other"]
  is_point : Fn K mg "is_point" s_is_point t.f_is_point t.d_is_point ["thing"]
  is_list_of : Fn K mg "is_list_of" s_is_list_of t.f_is_list_of t.d_is_list_of ["thing", "least", "most"]
  is_layer_point : Fn K mg "is_layer_point" s_is_layer_point t.f_is_layer_point t.d_is_layer_point ["thing"]
  check_ring : Fn K mg "check_ring" s_check_ring t.f_check_ring t.d_check_ring ["number", "ring"]
  layer_of : Fn K mg "layer_of" s_layer_of t.f_layer_of t.d_layer_of ["rings"]
  l_hand : Fn K mg "_law_hand" s_l_hand t.f_l_hand t.d_l_hand ["_law_script"]
  l_next : Fn K mg "_law_next" s_l_next t.f_l_next t.d_l_next ["_law_hand_here"]
  l_take : Fn K mg "_law_take" s_l_take t.f_l_take t.d_l_take ["_law_hand_here"]
  l_draw : Fn K mg "_law_draw" s_l_draw t.f_l_draw t.d_l_draw ["_law_hand_here", "_law_many"]
  l_divisor : Fn K mg "_law_divisor" s_l_divisor t.f_l_divisor t.d_l_divisor ["_law_one", "_law_other"]
  l_point : Fn K mg "_law_point" s_l_point t.f_l_point t.d_l_point ["_law_a", "_law_b", "_law_c"]
  l_whole : Fn K mg "_law_whole" s_l_whole t.f_l_whole t.d_l_whole ["_law_thing"]
  l_far : Fn K mg "_law_far" s_l_far t.f_l_far t.d_l_far ["_law_hand_here"]
  l_unlike : Fn K mg "_law_unlike" s_l_unlike t.f_l_unlike t.d_l_unlike ["_law_p", "_law_others"]
  l_ring : Fn K mg "_law_ring" s_l_ring t.f_l_ring t.d_l_ring ["_law_hand_here", "_law_many"]
  l_no_point : Fn K mg "_law_no_point" s_l_no_point t.f_l_no_point t.d_l_no_point ["_law_hand_here", "_law_p"]
  l_within : Fn K mg "_law_within" s_l_within t.f_l_within t.d_l_within ["_law_p"]
  l_spoil : Fn K mg "_law_spoil" s_l_spoil t.f_l_spoil t.d_l_spoil ["_law_hand_here", "_law_rings"]
  l_fault : Fn K mg "_law_fault" s_l_fault t.f_l_fault t.d_l_fault ["_law_thing"]
  l_alike : Fn K mg "_law_alike" s_l_alike t.f_l_alike t.d_l_alike ["_law_found", "_law_rings"]
  l_refused : Fn K mg "_law_refused" s_l_refused t.f_l_refused t.d_l_refused ["_law_thing"]
  l_by_base : Fn K mg "_law_by_base" s_l_by_base t.f_l_by_base t.d_l_by_base ["_law_thing"]
  l_copy : Fn K mg "_law_copy" s_l_copy t.f_l_copy t.d_l_copy ["_law_thing"]
  l_taken : Fn K mg "_law_taken" s_l_taken t.f_l_taken t.d_l_taken ["_law_rings"]
  law : Fn K mg "law" s_law t.f_law t.d_law ["_law_script"]
  mx_BadLayer : exI K t.c_BadLayer t.f_BadLayer_init = true
  kx_BadLayer : PySem.W.keepIn K (.ref t.c_BadLayer) = true
  xc_BadLayer : XCls K t.c_BadLayer
  n_BadLayer_ring : NoAttr K t.c_BadLayer "ring"
  n_BadLayer_at : NoAttr K t.c_BadLayer "at"
  b_ValueError : mg "ValueError" = none
  b_abs : mg "abs" = none
  b_all : mg "all" = none
  b_bool : mg "bool" = none
  b_enumerate : mg "enumerate" = none
  b_int : mg "int" = none
  b_isinstance : mg "isinstance" = none
  b_len : mg "len" = none
  b_list : mg "list" = none
  b_range : mg "range" = none
  b_tuple : mg "tuple" = none
  k_MOST_TOP : ∃ tk, mg "MOST_TOP" = some (.int 1000000000000 tk)
  k_MOST_BOTTOM : ∃ tk, mg "MOST_BOTTOM" = some (.int 1000000 tk)
  k_LEAST_POINTS : ∃ tk, mg "LEAST_POINTS" = some (.int 3 tk)
  k_MOST_POINTS : ∃ tk, mg "MOST_POINTS" = some (.int 12 tk)
  k_MOST_RINGS : ∃ tk, mg "MOST_RINGS" = some (.int 4 tk)
  m_PlyError : mg "PlyError" = some (.ref t.c_PlyError)
  m_NoPoint : mg "NoPoint" = some (.ref t.c_NoPoint)
  m_BadPlan : mg "BadPlan" = some (.ref t.c_BadPlan)
  m_BadLayer : mg "BadLayer" = some (.ref t.c_BadLayer)
  m_TooMany : mg "TooMany" = some (.ref t.c_TooMany)
  m_bad : PySem.W.exmOne K (.ref t.c_BadLayer) (.ref t.c_BadLayer) = some true
  m_top : PySem.W.exmOne K (.ref t.c_BadLayer) (.ref t.c_PlyError) = some true
  i_plan : PySem.W.kitOne K (.ref t.c_BadLayer) (.ref t.c_BadPlan) = some false
  i_point : PySem.W.kitOne K (.ref t.c_BadLayer) (.ref t.c_NoPoint) = some false
  i_many : PySem.W.kitOne K (.ref t.c_BadLayer) (.ref t.c_TooMany) = some false
  i_bad : PySem.W.kitOne K (.ref t.c_BadLayer) (.ref t.c_BadLayer) = some true
  i_val : PySem.W.kitOne K (.ref t.c_BadLayer) (.type "ValueError") = some true
section
variable {P : Program} {w : World} {K : PySem.W.Frag} {mg : Str → Option Value} {base : Heap} {t : Adr}
def sp_BadLayer_init (t : Adr) : Sp := spI t.c_BadLayer ["ring", "at"]
theorem sc_BadLayer_init : FnScope ["self", "ring", "at"] ["self", "ring", "at"] (defScope s_BadLayer_init) := ⟨rfl, rfl, rfl, by decide +kernel, rfl, by decide +kernel, by decide +kernel⟩
theorem ok_BadLayer_init (T : Txt K mg t) : FnOk P w K mg base CX0 1 t.f_BadLayer_init t.d_BadLayer_init ["self", "ring", "at"] (sp_BadLayer_init t) := by
  refine T.BadLayer_init.F.ok (k := 0) sc_BadLayer_init (fun vs H Q E h => ?_) (fun cdv A outer s H vs Q E hr h => ?_)
  · obtain ⟨a, tt, vs', rfl, _, hl, _⟩ := h
    rw [List.length_cons, hl]; rfl
  · obtain ⟨a, tt, vs', rfl, ha, hl, k⟩ := h
    refine ⟨_, (@pss_cons _ _ _ _ _ (@ps_fldE _ _ _ _ _ _ _ _ (pv 0) (pv 1) rfl) (@pss_one _ _ _ (@ps_fldE _ _ _ _ _ _ _ _ (pv 0) (pv 2) rfl))), ?_⟩
    match vs', hl with
    | [x, y], _ =>
    refine st_fldN (pu_v rfl) (pu_v rfl) ha T.xc_BadLayer T.n_BadLayer_ring fun dx h1 h2 => ?_
    refine st_fldO1 (dx := dx) (pu_v rfl) (pu_v rfl) (by rw [upd_ne (Ne.symm h2), upd_same]) h2 upd_same (by simp) T.xc_BadLayer T.n_BadLayer_at ?_
    rw [upd_upd]
    exact k dx h1 h2
def wholeD (d : D) : Bool := d.isInt && !d.isBool
def sp_is_whole : Sp := fun vs H Q _ => ∃ hd v d, vs = [v] ∧ DAt hd H v d ∧ Q (.bl (wholeD d)) H
theorem sc_is_whole : FnScope ["thing"] ["thing"] (defScope s_is_whole) := ⟨rfl, rfl, rfl, by decide +kernel, rfl, by decide +kernel, by decide +kernel⟩
theorem ok_is_whole (T : Txt K mg t) : FnOk P w K mg base CX0 1 t.f_is_whole t.d_is_whole ["thing"] sp_is_whole := by
  refine T.is_whole.F.ok (k := 0) sc_is_whole (fun vs H Q E h => ?_) (fun cdv A outer s H vs Q E hr h => ?_)
  · obtain ⟨hd, v, d, rfl, _⟩ := h
    rfl
  · obtain ⟨hd, v, d, rfl, hv, k⟩ := h
    refine ⟨_, (@pss_one _ _ _ (@ps_ret _ _ _ _ (@pe_and _ _ _ _ _ _ _ (@pe_callB _ _ _ _ _ _ _ _ _ call_isinst (by rfl) T.b_isinstance PyProof.Rows.boot_isinstance (@pa_cons _ _ _ _ _ (pv 0) (@pa_cons _ _ _ _ _ (@pe_ty _ _ _ _ T.b_int PyProof.Rows.boot_int (by rfl) (by decide) (by decide)) (@pa_nil _) star_name) star_name) (by decide) (by decide) (by rfl) (by rfl)) (@pe_one _ _ _ _ _ (@pe_not _ _ _ _ (@pe_callB _ _ _ _ _ _ _ _ _ call_isinst (by rfl) T.b_isinstance PyProof.Rows.boot_isinstance (@pa_cons _ _ _ _ _ (pv 0) (@pa_cons _ _ _ _ _ (@pe_ty _ _ _ _ T.b_bool PyProof.Rows.boot_bool (by rfl) (by decide) (by decide)) (@pa_nil _) star_name) star_name) (by decide) (by decide) (by rfl) (by rfl))))))), ?_⟩
    exact st_ret (pu_and (pu_isi (pa_c (pu_v rfl) (pa_c pu_c pa_n)) hv.ty (kd_int d)) fun _ => pu_not (pu_isi (pa_c (pu_v rfl) (pa_c pu_c pa_n)) hv.ty (kd_bool d))) k
def sp_divisor_of : Sp := fun vs H Q _ => ∃ a b : Int, vs = [.int a, .int b] ∧ Q (.int (Int.gcd a b)) H
theorem sc_divisor_of : FnScope ["one", "other", "rest"] ["one", "other"] (defScope s_divisor_of) := ⟨rfl, rfl, rfl, by decide +kernel, rfl, by decide +kernel, by decide +kernel⟩
theorem ok_divisor_of (T : Txt K mg t) : FnOk P w K mg base CX0 1 t.f_divisor_of t.d_divisor_of ["one", "other"] sp_divisor_of := by
  refine T.divisor_of.F.ok (k := 0) sc_divisor_of (fun vs H Q E h => ?_) (fun cdv A outer s H vs Q E hr h => ?_)
  · obtain ⟨a, b, rfl, _⟩ := h
    rfl
  · obtain ⟨a, b, rfl, k⟩ := h
    refine ⟨_, (@pss_cons _ _ _ _ _ (@ps_set _ _ 0 _ _ _ _ sc_divisor_of.nd rfl (Or.inl rfl) (@pe_callB _ _ _ _ _ _ _ _ _ call_abs (by rfl) T.b_abs PyProof.Rows.boot_abs (@pa_cons _ _ _ _ _ (pv 0) (@pa_nil _) star_name) (by decide) (by decide) (by rfl) (by rfl)) (by rfl) (by first | exact .inl rfl | exact .inr rfl | assumption)) (@pss_cons _ _ _ _ _ (@ps_set _ _ 1 _ _ _ _ sc_divisor_of.nd rfl (Or.inl rfl) (@pe_callB _ _ _ _ _ _ _ _ _ call_abs (by rfl) T.b_abs PyProof.Rows.boot_abs (@pa_cons _ _ _ _ _ (pv 1) (@pa_nil _) star_name) (by decide) (by decide) (by rfl) (by rfl)) (by rfl) (by first | exact .inl rfl | exact .inr rfl | assumption)) (@pss_cons _ _ _ _ _ (@ps_while _ _ _ _ _ _ PassesOwn.never (@pt_cmpR _ _ _ _ _ _ _ _ op_ne (pv 1) (@pe_int _ _ _ _) (nomark _)) (@pss_cons _ _ _ _ _ (@ps_set _ _ 2 _ _ _ _ sc_divisor_of.nd rfl (Or.inl rfl) (@pe_op _ _ _ _ _ _ _ _ op_modN (pv 0) (pv 1)) (by rfl) (by first | exact .inl rfl | exact .inr rfl | assumption)) (@pss_cons _ _ _ _ _ (@ps_set _ _ 0 _ _ _ _ sc_divisor_of.nd rfl (Or.inl rfl) (pv 1) (by rfl) (by first | exact .inl rfl | exact .inr rfl | assumption)) (@pss_one _ _ _ (@ps_set _ _ 1 _ _ _ _ sc_divisor_of.nd rfl (Or.inl rfl) (pv 2) (by rfl) (by first | exact .inl rfl | exact .inr rfl | assumption)))))) (@pss_one _ _ _ (@ps_ret _ _ _ _ (pv 0)))))), ?_⟩
    refine st_set (pu_abs (pa_c (pu_v rfl) pa_n)) ?_
    refine st_set (pu_abs (pa_c (pu_v rfl) pa_n)) ?_
    refine st_while (fun σ H' => H' = H ∧ ∃ (x y : Int) (r : Option V), σ = [some (.int x), some (.int y), r] ∧ 0 ≤ x ∧ 0 ≤ y ∧ Int.gcd x y = Int.gcd a b) (fun σ _ => match σ with | [_, some (.int y), _] => y.toNat | _ => 0)
      ⟨rfl, a.natAbs, b.natAbs, none, rfl, by omega, by omega, rfl⟩ ?_
    rintro σ H' ⟨rfl, x, y, r, rfl, hx, hy, hg⟩
    refine ⟨_, pt_t (pu_neI (pu_v rfl) pu_c), fun e => ?_, fun e => ?_⟩
    · have e' : y ≠ 0 := by simpa using e
      have hm := fmod_lt (x := x) (show 0 < y by omega)
      refine st_set (pu_mod (pu_v rfl) (pu_v rfl) e') ?_
      refine st_set (pu_v rfl) ?_
      refine st_set1 (pu_v rfl) ?_
      exact ⟨⟨rfl, y, x.fmod y, _, rfl, hy, hm.1, by rw [gcd_step hx hy]; exact hg⟩, by show (x.fmod y).toNat < y.toNat; omega⟩
    · have e' : y = 0 := by simpa using e
      subst e'
      refine st_ret (pu_v rfl) ?_
      rw [← hg, gcd_zero x hx] at k
      exact k
def wV : V → Bool
  | .int _ => true
  | _ => false
theorem wV_of {hd : Addr} {H : Hp} {v : V} {d : D} (h : DAt hd H v d) : wholeD d = wV v := by
  cases h <;> rfl
theorem wV_int {hd : Addr} {H : Hp} {v : V} {d : D} (h : DAt hd H v d) (e : wV v = true) : ∃ n : Int, v = .int n ∧ d = .int n := by
  cases h with
  | int n => exact ⟨n, rfl, rfl⟩
  | _ => cases e
theorem ds_whole {hd : Addr} {H : Hp} : ∀ {vs : List V} {ds : List D}, DsAt hd H vs ds → (vs.map wV).all id = true → ∃ ns : List Int, vs = ns.map V.int ∧ ds = ns.map D.int
  | _, _, .nil, _ => ⟨[], rfl, rfl⟩
  | _, _, .cons h t, e => by
    simp only [List.map_cons, List.all_cons, id, Bool.and_eq_true] at e
    obtain ⟨n, rfl, rfl⟩ := wV_int h e.1
    obtain ⟨ns, rfl, rfl⟩ := ds_whole t e.2
    exact ⟨n :: ns, rfl, rfl⟩
theorem ds_not {hd : Addr} {H : Hp} : ∀ {vs : List V} {ds : List D}, DsAt hd H vs ds → (vs.map wV).all id = false → intsD ds = none
  | _, _, .nil, e => by cases e
  | _, _, .cons h t, e => by
    cases h with
    | int n =>
      show (intsD _).map _ = none
      rw [ds_not t (by simpa [wV] using e)]
      rfl
    | _ => rfl
/-- all([is_whole(part) for part in thing]) -/
theorem gv_wholes {K : PySem.W.Frag} {σ : L2.St} {H : Hp} {tl : TE} {hd a : Addr} {xs : List V} {ds : List D} (hl : Pu tl σ H (.ref a)) (ha : H a = some (.tup xs)) (t : DsAt hd H xs ds) (hz : xs.length ≤ 1000) :
    Gv (tCB (fun xs H Q => ∃ (p : Addr) (bs : List Bool), xs = [.ref p] ∧ SqL K H p (bs.map V.bl) ∧ Q (.bl (bs.all id)) H) (tCons (tComp (iTup K tl) (fun _ => [none]) (gName 0) (tCall sp_is_whole [] E0 (tCons (tVar 0) tNil))) tNil)) σ H (fun v H' => Same H H' ∧ v = .bl ((xs.map wV).all id)) := by
  refine Gv.imp (gv_all (K := K) (xs.map wV) (gv_compP (fun v => .bl (wV v)) hl (SqT.of ha) hz (fun _ => KeepS.none1) fun x hx H' s => pu_call (pa_c (pu_v rfl) pa_n) fun Q q => ?_) ?_) ?_
  · obtain ⟨i, hi⟩ := List.getElem?_of_mem hx
    obtain ⟨d, _, hd'⟩ := t.get hi
    exact ⟨hd, x, d, rfl, hd'.same s, by rw [wV_of hd']; exact q⟩
  · rintro v H' ⟨D, hD, rfl, rfl⟩
    exact ⟨D, rfl, SqL.of (by rw [upd_same, List.map_map]; rfl)⟩
  · rintro v H' ⟨⟨p, D, hD, e1, rfl⟩, rfl⟩
    exact ⟨Same.upd hD, rfl⟩
def sp_is_point : Sp := fun vs H Q _ => ∃ hd v d, vs = [v] ∧ DAt hd H v d ∧ ∀ H', Same H H' → Q (.bl (okN 3 d)) H'
theorem sc_is_point : FnScope ["thing"] ["thing"] (defScope s_is_point) := ⟨rfl, rfl, rfl, by decide +kernel, rfl, by decide +kernel, by decide +kernel⟩
theorem ok_is_point (T : Txt K mg t) : FnOk P w K mg base CX0 2 t.f_is_point t.d_is_point ["thing"] sp_is_point := by
  refine T.is_point.F.ok (k := 1) sc_is_point (fun vs H Q E h => ?_) (fun cdv A outer s H vs Q E hr h => ?_)
  · obtain ⟨hd, v, d, rfl, _⟩ := h
    rfl
  · obtain ⟨hd, v, d, rfl, hv, k⟩ := h
    refine ⟨_, (@pss_cons _ _ _ _ _ (@ps_if _ _ _ _ _ _ _ _ (PW.pt (@pw_or _ _ _ _ _ _ _ (@pt_not _ _ _ _ (@pt_val _ _ _ (@pe_callB _ _ _ _ _ _ _ _ _ call_isinst (by rfl) T.b_isinstance PyProof.Rows.boot_isinstance (@pa_cons _ _ _ _ _ (pv 0) (@pa_cons _ _ _ _ _ (@pe_ty _ _ _ _ T.b_tuple PyProof.Rows.boot_tuple (by rfl) (by decide) (by decide)) (@pa_nil _) star_name) star_name) (by decide) (by decide) (by rfl) (by rfl)) (by intro _; rfl))) (@pw_or1 _ _ _ _ (@pt_cmpR _ _ _ _ _ _ _ _ op_ne (@pe_callB _ _ _ _ _ _ _ _ _ call_len_seq (by rfl) T.b_len PySem.boot_len (@pa_cons _ _ _ _ _ (pv 0) (@pa_nil _) star_name) (by decide) (by decide) (by rfl) (by rfl)) (@pe_int _ _ _ _) (nomark _))))) (@pss_one _ _ _ (@ps_ret _ _ _ _ (@pe_bl _ _ _ _))) (@pss_nil _)) (@pss_cons _ _ _ _ _ (@ps_if _ _ _ _ _ _ _ _ (@pt_not _ _ _ _ (@pt_val _ _ _ (@pe_callB _ _ _ _ _ _ _ _ _ (call_all rfl) (by rfl) T.b_all PyProof.Rows.boot_all (@pa_cons _ _ _ _ _ (@pe_lcomp _ _ _ _ _ [] _ ["part"] _ (fun _ => [none]) _ _ rfl (@pi_tup _ _ _ _ (pv 0)) (fun _ _ _ _ => pg_name (i := 0) (List.nodup_cons.mpr ⟨fun h => (nomatch h), List.nodup_nil⟩) rfl (Or.inl rfl) (.inr rfl)) (fun _ _ _ _ => (@pe_fn _ _ _ _ _ _ _ _ _ _ _ _ _ _ T.is_whole (ok_is_whole T) hr (by decide) (@pa_cons _ _ _ _ _ (pv 0) (@pa_nil _) star_name) (by rfl) (by decide) (by rfl) (by rfl))) (closureFor_none (by decide +kernel)) rfl (by decide +kernel) (by decide +kernel) (fun _ _ h => by cases h) (noCells (by rfl)) (fun _ _ => rfl) (fun _ i _ _ _ h => by cases i with | zero => cases h | succ i => simp at h) (by intro _; rfl)) (@pa_nil _) star_lc) (by decide) (by decide) (by rfl) (by rfl)) (by intro _; rfl))) (@pss_one _ _ _ (@ps_ret _ _ _ _ (@pe_bl _ _ _ _))) (@pss_nil _)) (@pss_one _ _ _ (@ps_ret _ _ _ _ (@pe_and _ _ _ _ _ _ _ (@pe_cmpR _ _ _ _ _ _ _ _ op_ge (@pe_ix _ _ _ _ _ _ _ ix_tup (pv 0) (@pe_int _ _ _ _) (fun _ _ => rfl)) (@pe_int _ _ _ _) (nomark _)) (@pe_one _ _ _ _ _ (@pe_cmpR _ _ _ _ _ _ _ _ op_eq (@pe_fn _ _ _ _ _ _ _ _ _ _ _ _ _ _ T.divisor_of (ok_divisor_of T) hr (by decide) (@pa_cons _ _ _ _ _ (@pe_fn _ _ _ _ _ _ _ _ _ _ _ _ _ _ T.divisor_of (ok_divisor_of T) hr (by decide) (@pa_cons _ _ _ _ _ (@pe_ix _ _ _ _ _ _ _ ix_tup (pv 0) (@pe_int _ _ _ _) (fun _ _ => rfl)) (@pa_cons _ _ _ _ _ (@pe_ix _ _ _ _ _ _ _ ix_tup (pv 0) (@pe_int _ _ _ _) (fun _ _ => rfl)) (@pa_nil _) star_sub) star_sub) (by rfl) (by decide) (by rfl) (by rfl)) (@pa_cons _ _ _ _ _ (@pe_ix _ _ _ _ _ _ _ ix_tup (pv 0) (@pe_int _ _ _ _) (fun _ _ => rfl)) (@pa_nil _) star_sub) star_call) (by rfl) (by decide) (by rfl) (by rfl)) (@pe_int _ _ _ _) (nomark _)))))))), ?_⟩
    by_cases ht : d.isTup = true
    case neg =>
      have e0 : d.isTup = false := by simpa using ht
      refine st_ifN (b := true) (pt_or (b := true) (c := true) (pt_n (b := false) (pt_b (pu_isi (pa_c (pu_v rfl) (pa_c pu_c pa_n)) hv.ty (by rw [kd_tup, e0])))) (fun e => by cases e)) (fun _ => ?_) (fun e => by cases e)
      have e1 : okN 3 d = false := by cases d <;> first | rfl | cases e0
      rw [e1] at k
      exact st_ret pu_c (k _ Same.rfl')
    cases hv with
    | @tup a xs ds h td =>
      have hl := td.len
      refine st_ifN (pt_or (b := false) (c := !decide (xs.length = 3)) (pt_n (b := true) (pt_b (pu_isi (pa_c (pu_v rfl) (pa_c pu_c pa_n)) (.tup h) kit_same))) fun _ => pt_t (pu_cast (pu_neI (pu_lenT (pa_c (pu_v rfl) pa_n) (SqT.of h)) pu_c) (by congr 2; rw [decide_eq_decide]; omega))) (fun e => ?_) fun e => ?_
      · have e1 : ds.length ≠ 3 := by rw [← hl]; simpa using e
        rw [okN_len e1] at k
        exact st_ret pu_c (k _ Same.rfl')
      have e2 : xs.length = 3 := by simpa using e
      refine st_ifNG (R := fun b H' => b = !((xs.map wV).all id) ∧ Same H H') (gt_n (R := fun b H' => b = (xs.map wV).all id ∧ Same H H') (gt_b (R := fun v H' => Same H H' ∧ v = .bl ((xs.map wV).all id)) (gv_wholes (pu_v rfl) h td (by omega)) (fun v H' r => ⟨_, r.2⟩) |>.imp fun b H' r => ⟨by have := r.2; cases this; rfl, r.1⟩) |>.imp fun b H' r => ⟨by rw [← r.1]; simp, r.2⟩) (fun H' e => ?_) fun H' e => ?_
      · have e1 : (xs.map wV).all id = false := by have := e.1; simpa using this
        have e3 : okN 3 (.tup ds) = false := by
          show (match intsD ds with | some ns => okI 3 ns | none => false) = false
          rw [ds_not td e1]
        rw [e3] at k
        exact st_ret pu_c (k _ e.2)
      · have e1 : (xs.map wV).all id = true := by have := e.1; simpa using this
        obtain ⟨ns, rfl, rfl⟩ := ds_whole td e1
        rw [okN_ints] at k
        rw [List.length_map] at e2
        match ns, e2 with
        | [a', b, c], _ =>
        have ha1 := e.2 _ _ h
        refine st_ret (pu_and (pu_ge (pu_ixT (pu_v rfl) pu_c (SqT.of (ha1)) rfl) pu_c) fun _ => pu_eqI (pu_call (pa_c (pu_call (pa_c (pu_ixT (pu_v rfl) pu_c (SqT.of (ha1)) rfl) (pa_c (pu_ixT (pu_v rfl) pu_c (SqT.of (ha1)) rfl) pa_n)) fun Q q => ⟨a', b, rfl, q⟩) (pa_c (pu_ixT (pu_v rfl) pu_c (SqT.of (ha1)) rfl) pa_n)) fun Q q => ⟨_, c, rfl, q⟩) pu_c) ?_
        rw [okI3] at k
        exact k _ e.2
    | _ => cases ht
def isLo (a b : Int) (d : D) : Bool := match d with
  | .lst ds => decide (a ≤ (ds.length : Int)) && decide ((ds.length : Int) ≤ b)
  | _ => false
def isLst : D → Bool
  | .lst _ => true
  | _ => false
theorem kd_lst {K : PySem.W.Frag} (d : D) : PySem.W.kitOne K (.type d.ty) (.type "list") = some (isLst d) := by
  cases d with
  | lst s => exact kit_same
  | non => exact kit_not (a := "NoneType") (b := "list") (by decide) (by decide +kernel)
  | bl _ => exact kit_not (a := "bool") (b := "list") (by decide) (by decide +kernel)
  | int _ => exact kit_not (a := "int") (b := "list") (by decide) (by decide +kernel)
  | str _ => exact kit_not (a := "str") (b := "list") (by decide) (by decide +kernel)
  | tup _ => exact kit_not (a := "tuple") (b := "list") (by decide) (by decide +kernel)
  | dct => exact kit_not (a := "dict") (b := "list") (by decide) (by decide +kernel)
theorem pu_chLE {σ : L2.St} {H : Hp} {ta tb tc : TE} {i j k : Int} (ha : Pu ta σ H (.int i)) (hb : Pu tb σ H (.int j)) (hc : Pu tc σ H (.int k)) : Pu (tChain (rI0 fun i j => .bl (decide (i ≤ j))) (rI0 fun i j => .bl (decide (i ≤ j))) ta tb tc) σ H (.bl (decide (i ≤ j) && decide (j ≤ k))) := fun Q q =>
  ha _ (hb _ ⟨i, j, rfl, rfl, _, rfl, by
    by_cases c : i ≤ j
    · rw [if_pos (decide_eq_true c)]
      refine hc _ ⟨j, k, rfl, rfl, ?_⟩
      rw [decide_eq_true c, Bool.true_and] at q
      exact q
    · rw [if_neg (by simp [c])]
      rw [decide_eq_false c, Bool.false_and] at q
      exact q⟩)
def sp_is_list_of : Sp := fun vs H Q _ => ∃ hd v d a b, vs = [v, .int a, .int b] ∧ DAt hd H v d ∧ Q (.bl (isLo a b d)) H
theorem sc_is_list_of : FnScope ["thing", "least", "most"] ["thing", "least", "most"] (defScope s_is_list_of) := ⟨rfl, rfl, rfl, by decide +kernel, rfl, by decide +kernel, by decide +kernel⟩
theorem ok_is_list_of (T : Txt K mg t) : FnOk P w K mg base CX0 1 t.f_is_list_of t.d_is_list_of ["thing", "least", "most"] sp_is_list_of := by
  refine T.is_list_of.F.ok (k := 0) sc_is_list_of (fun vs H Q E h => ?_) (fun cdv A outer s H vs Q E hr h => ?_)
  · obtain ⟨hd, v, d, a, b, rfl, _⟩ := h
    rfl
  · obtain ⟨hd, v, d, a, b, rfl, hv, k⟩ := h
    refine ⟨_, (@pss_one _ _ _ (@ps_ret _ _ _ _ (@pe_and _ _ _ _ _ _ _ (@pe_callB _ _ _ _ _ _ _ _ _ call_isinst (by rfl) T.b_isinstance PyProof.Rows.boot_isinstance (@pa_cons _ _ _ _ _ (pv 0) (@pa_cons _ _ _ _ _ (@pe_ty _ _ _ _ T.b_list PyProof.Rows.boot_list (by rfl) (by decide) (by decide)) (@pa_nil _) star_name) star_name) (by decide) (by decide) (by rfl) (by rfl)) (@pe_one _ _ _ _ _ (@pe_chain _ _ _ _ _ _ _ _ _ _ _ _ op_le op_le (pv 1) (@pe_callB _ _ _ _ _ _ _ _ _ call_len_seq (by rfl) T.b_len PySem.boot_len (@pa_cons _ _ _ _ _ (pv 0) (@pa_nil _) star_name) (by decide) (by decide) (by rfl) (by rfl)) (pv 2) (by with_unfolding_all rfl)))))), ?_⟩
    by_cases hl : isLst d = true
    case neg =>
      have e0 : isLst d = false := by simpa using hl
      refine st_ret (v := .bl false) (pu_cast (pu_and (b := false) (c := false) (pu_isi (pa_c (pu_v rfl) (pa_c pu_c pa_n)) hv.ty (by rw [kd_lst, e0])) (fun e => by cases e)) rfl) ?_
      have e1 : isLo a b d = false := by cases d <;> first | rfl | cases e0
      rw [e1] at k
      exact k
    cases hv with
    | @lst l xs ds h n td =>
      refine st_ret (pu_and (pu_isi (pa_c (pu_v rfl) (pa_c pu_c pa_n)) (.lst h) kit_same) fun _ => pu_chLE (pu_v rfl) (pu_lenL (pa_c (pu_v rfl) pa_n) (SqL.of h)) (pu_v rfl)) ?_
      rw [td.len, Bool.true_and]
      exact k
    | _ => cases hl
/-- the three numbers of a point of a layer -/
def lpI (ns : List Int) : Bool := okI 3 ns && decide ((ns.getD 0 0).natAbs ≤ 1000000000000) && decide ((ns.getD 1 0).natAbs ≤ 1000000000000) && decide (ns.getD 2 0 ≤ 1000000)
def lpL : D → Option (List Int)
  | .tup ds => match intsD ds with
    | some ns => if lpI ns = true then some ns else none
    | none => none
  | _ => none
theorem lpL_ok {d : D} (h : okN 3 d = false) : lpL d = none := by
  cases d with
  | tup ds =>
    unfold lpL
    unfold okN at h
    cases e : intsD ds with
    | none => simp [e]
    | some ns =>
      simp only [e] at h ⊢
      rw [if_neg]
      unfold lpI
      rw [h]
      simp
  | _ => rfl
theorem okN_three {d : D} (h : okN 3 d = true) : ∃ a b c : Int, d = .tup [.int a, .int b, .int c] ∧ okI 3 [a, b, c] = true := by
  cases d with
  | tup ds =>
    unfold okN at h
    cases e : intsD ds with
    | none => simp [e] at h
    | some ns =>
      simp only [e] at h
      have := intsD_len e
      subst this
      have hl : ns.length = 3 := by
        unfold okI at h
        simp only [Bool.and_eq_true, decide_eq_true_iff] at h
        exact h.1.1
      match ns, hl with
      | [a, b, c], _ => exact ⟨a, b, c, rfl, h⟩
  | _ => cases h
theorem lpL_three {a b c : Int} (h : okI 3 [a, b, c] = true) : (lpL (.tup [.int a, .int b, .int c])).isSome = ((decide ((a.natAbs : Int) ≤ 1000000000000) && (decide ((b.natAbs : Int) ≤ 1000000000000) && decide (c ≤ 1000000)))) := by
  show (if lpI [a, b, c] = true then some [a, b, c] else none).isSome = _
  have e : lpI [a, b, c] = (decide ((a.natAbs : Int) ≤ 1000000000000) && (decide ((b.natAbs : Int) ≤ 1000000000000) && decide (c ≤ 1000000))) := by
    unfold lpI
    rw [h]
    rw [Bool.eq_iff_iff]
    simp
    omega
  rw [e]
  split
  · rename_i q; rw [q]; rfl
  · rename_i q; rw [Bool.not_eq_true] at q; rw [q]; rfl
theorem lpL_some {d : D} {ns : List Int} (h : lpL d = some ns) : d = .tup (ns.map D.int) ∧ lpI ns = true := by
  cases d with
  | tup ds =>
    unfold lpL at h
    cases e : intsD ds with
    | none => simp [e] at h
    | some ms =>
      simp only [e] at h
      split at h
      · cases h
        exact ⟨by rw [intsD_len e], by assumption⟩
      · cases h
  | _ => cases h
def sp_is_layer_point : Sp := fun vs H Q _ => ∃ hd v d, vs = [v] ∧ DAt hd H v d ∧ ∀ H', Same H H' → Q (.bl (lpL d).isSome) H'
theorem sc_is_layer_point : FnScope ["thing"] ["thing"] (defScope s_is_layer_point) := ⟨rfl, rfl, rfl, by decide +kernel, rfl, by decide +kernel, by decide +kernel⟩
theorem ok_is_layer_point (T : Txt K mg t) : FnOk P w K mg base CX0 3 t.f_is_layer_point t.d_is_layer_point ["thing"] sp_is_layer_point := by
  refine T.is_layer_point.F.ok (k := 2) sc_is_layer_point (fun vs H Q E h => ?_) (fun cdv A outer s H vs Q E hr h => ?_)
  · obtain ⟨hd, v, d, rfl, _⟩ := h
    rfl
  · obtain ⟨hd, v, d, rfl, hv, k⟩ := h
    refine ⟨_, (@pss_cons _ _ _ _ _ (@ps_if _ _ _ _ _ _ _ _ (@pt_not _ _ _ _ (@pt_val _ _ _ (@pe_fn _ _ _ _ _ _ _ _ _ _ _ _ _ _ T.is_point (ok_is_point T) hr (by decide) (@pa_cons _ _ _ _ _ (pv 0) (@pa_nil _) star_name) (by rfl) (by decide) (by rfl) (by rfl)) (by intro _; rfl))) (@pss_one _ _ _ (@ps_ret _ _ _ _ (@pe_bl _ _ _ _))) (@pss_nil _)) (@pss_one _ _ _ (@ps_ret _ _ _ _ (@pe_and _ _ _ _ _ _ _ (@pe_cmpR _ _ _ _ _ _ _ _ op_le (@pe_callB _ _ _ _ _ _ _ _ _ call_abs (by rfl) T.b_abs PyProof.Rows.boot_abs (@pa_cons _ _ _ _ _ (@pe_ix _ _ _ _ _ _ _ ix_tup (pv 0) (@pe_int _ _ _ _) (fun _ _ => rfl)) (@pa_nil _) star_sub) (by decide) (by decide) (by rfl) (by rfl)) (@pe_konI _ _ _ _ T.k_MOST_TOP (by rfl) (by decide)) (nomark _)) (@pe_and _ _ _ _ _ _ _ (@pe_cmpR _ _ _ _ _ _ _ _ op_le (@pe_callB _ _ _ _ _ _ _ _ _ call_abs (by rfl) T.b_abs PyProof.Rows.boot_abs (@pa_cons _ _ _ _ _ (@pe_ix _ _ _ _ _ _ _ ix_tup (pv 0) (@pe_int _ _ _ _) (fun _ _ => rfl)) (@pa_nil _) star_sub) (by decide) (by decide) (by rfl) (by rfl)) (@pe_konI _ _ _ _ T.k_MOST_TOP (by rfl) (by decide)) (nomark _)) (@pe_one _ _ _ _ _ (@pe_cmpR _ _ _ _ _ _ _ _ op_le (@pe_ix _ _ _ _ _ _ _ ix_tup (pv 0) (@pe_int _ _ _ _) (fun _ _ => rfl)) (@pe_konI _ _ _ _ T.k_MOST_BOTTOM (by rfl) (by decide)) (nomark _)))))))), ?_⟩
    refine st_ifNG (R := fun b H' => b = !(okN 3 d) ∧ Same H H') ((gt_n (R := fun b H' => b = okN 3 d ∧ Same H H') ((gt_b (R := fun v H' => v = .bl (okN 3 d) ∧ Same H H') (gv_call (pa_c (pu_v rfl) pa_n) fun Q q => ⟨hd, v, d, rfl, hv, fun H' s => q _ _ ⟨rfl, s⟩⟩) (fun v H' r => ⟨_, r.1⟩)).imp fun b H' r => ⟨by have := r.1; cases this; rfl, r.2⟩)).imp fun b H' r => ⟨by rw [← r.1]; simp, r.2⟩) (fun H' e => ?_) fun H' e => ?_
    · have e1 : okN 3 d = false := by have := e.1; simpa using this
      rw [lpL_ok e1] at k
      exact st_ret pu_c (k _ e.2)
    · have e1 : okN 3 d = true := by have := e.1; simpa using this
      obtain ⟨x, y, z, rfl, ok⟩ := okN_three e1
      obtain ⟨tk1, hk1⟩ := T.k_MOST_TOP
      cases hv.same e.2 with
      | @tup l xs ds h td =>
        obtain ⟨ns, rfl, e3⟩ := ds_whole td (by cases td with | cons h1 t1 => cases h1; cases t1 with | cons h2 t2 => cases h2; cases t2 with | cons h3 t3 => cases h3; cases t3; rfl)
        have e4 : ns = [x, y, z] := by
          have := congrArg intsD e3
          rw [intsD_ints] at this
          exact (Option.some.inj this).symm
        subst e4
        refine st_ret (v := .bl ((lpL (.tup [.int x, .int y, .int z])).isSome)) ?_ (k _ e.2)
        rw [lpL_three ok]
        exact pu_and (pu_le (pu_abs (pa_c (pu_ixT (pu_v rfl) pu_c (SqT.of (h)) rfl) pa_n)) pu_c) fun _ => pu_and (pu_le (pu_abs (pa_c (pu_ixT (pu_v rfl) pu_c (SqT.of (h)) rfl) pa_n)) pu_c) fun _ => pu_le (pu_ixT (pu_v rfl) pu_c (SqT.of (h)) rfl) pu_c
def badAt (ps : List (Option (List Int))) (j : Nat) : Bool := match ps[j]? with
  | some (some p) => decide (0 < j) && decide (ps[j - 1]? = some (some p))
  | _ => true
/-- the first fault of a ring that is long enough -/
def rf (ps : List (Option (List Int))) : Option Nat := match (List.range ps.length).find? (badAt ps) with
  | some j => some j
  | none => if ps.head? = ps.getLast? then some (ps.length - 1) else none
def ringF : D → Option Nat
  | .lst ds => if 3 ≤ ds.length ∧ ds.length ≤ 12 then rf (ds.map lpL) else some 0
  | _ => some 0
theorem rf_at {ps : List (Option (List Int))} {i : Nat} (hi : i < ps.length) (hj : ∀ j < i, badAt ps j = false) (hb : badAt ps i = true) : rf ps = some i := by
  have : (List.range ps.length).find? (badAt ps) = some i := by
    rw [List.find?_eq_some_iff_append]
    refine ⟨hb, List.range i, (List.range (ps.length - i - 1)).map (· + (i + 1)), ?_, fun a ha => ?_⟩
    · apply List.ext_getElem?
      intro n
      by_cases h1 : n < i
      · rw [List.getElem?_append_left (by rw [List.length_range]; exact h1)]
        simp [h1, Nat.lt_trans h1 hi]
      · rw [List.getElem?_append_right (by rw [List.length_range]; omega), List.length_range]
        by_cases h2 : n = i
        · subst h2
          simp [hi]
        · obtain ⟨m, rfl⟩ : ∃ m, n = i + 1 + m := ⟨n - i - 1, by omega⟩
          rw [show i + 1 + m - i = m + 1 by omega, List.getElem?_cons_succ, List.getElem?_map]
          by_cases h3 : i + 1 + m < ps.length
          · simp [h3, show m < ps.length - i - 1 by omega] <;> omega
          · simp [h3, show ¬ m < ps.length - i - 1 by omega] <;> omega
    · have := hj a (List.mem_range.mp ha)
      rw [this]
      rfl
  unfold rf
  rw [this]
theorem rf_end {ps : List (Option (List Int))} (hj : ∀ j < ps.length, badAt ps j = false) : rf ps = if ps.head? = ps.getLast? then some (ps.length - 1) else none := by
  have : (List.range ps.length).find? (badAt ps) = none := by
    rw [List.find?_eq_none]
    intro j hm
    rw [hj j (List.mem_range.mp hm)]
    decide
  unfold rf
  rw [this]
theorem ds_all {hd : Addr} {H : Hp} : ∀ {vs : List V} {ns : List Int}, DsAt hd H vs (ns.map D.int) → (vs.map wV).all id = true
  | _, [], .nil => rfl
  | _, n :: ns, .cons h t => by
    cases h
    show (true && _) = true
    rw [ds_all t]
    rfl
def spx_check_ring (t : Adr) : Sp := fun vs H Q E => ∃ (hd : Addr) (v : V) (d : D) (k : Int), vs = [.int k, v] ∧ DAt hd H v d ∧ (ringF d = none → ∀ H', Same H H' → Q .non H') ∧ ∀ (j : Nat) dx H', ringF d = some j → Same H H' → H' dx = some (.ext (xdI dx [(Str.ofString "ring", .int k), (Str.ofString "at", .int j)])) → E (.ref t.c_BadLayer) (some dx) H'
theorem sc_check_ring : FnScope ["number", "ring", "at", "thing"] ["number", "ring"] (defScope s_check_ring) := ⟨rfl, rfl, rfl, by decide +kernel, rfl, by decide +kernel, by decide +kernel⟩
theorem okx_check_ring (T : Txt K mg t) : FnOk P w K mg base (CXD P w) 4 t.f_check_ring t.d_check_ring ["number", "ring"] (spx_check_ring t) := by
  refine T.check_ring.F.okD (k := 3) sc_check_ring (fun vs H Q E h => ?_) (fun cdv A outer s H vs Q E hr h => ?_)
  · obtain ⟨hd, v, d, k, rfl, _⟩ := h
    rfl
  · obtain ⟨hd, v, d, k, rfl, hv, k0, k1⟩ := h
    obtain ⟨tk1, hk1⟩ := T.k_LEAST_POINTS
    refine ⟨_, (@pss_cons _ _ _ _ _ (@ps_if _ _ _ _ _ _ _ _ (@pt_not _ _ _ _ (@pt_val _ _ _ (@pe_fn _ _ _ _ _ _ _ _ _ _ _ _ _ _ T.is_list_of (ok_is_list_of T) hr (by decide) (@pa_cons _ _ _ _ _ (pv 1) (@pa_cons _ _ _ _ _ (@pe_konI _ _ _ _ T.k_LEAST_POINTS (by rfl) (by decide)) (@pa_cons _ _ _ _ _ (@pe_konI _ _ _ _ T.k_MOST_POINTS (by rfl) (by decide)) (@pa_nil _) star_name) star_name) star_name) (by rfl) (by decide) (by rfl) (by rfl)) (by intro _; rfl))) (@pss_one _ _ _ (ps_raiseI T.mx_BadLayer T.kx_BadLayer T.m_BadLayer rfl (ok_BadLayer_init T) hr (by decide) T.BadLayer_init.b (@pa_cons _ _ _ _ _ (pv 0) (@pa_cons _ _ _ _ _ (@pe_int _ _ _ _) (@pa_nil _) star_con) star_name))) (@pss_nil _)) (@pss_cons _ _ _ _ _ (ps_forD rfl rfl (pi_enum rfl T.b_enumerate PyProof.Rows.boot_enumerate (@pa_cons _ _ _ _ _ (pv 1) (@pa_nil _) star_name)) (@pg_tup _ _ _ _ _ _ rfl (@pgs_cons _ _ _ _ _ (@pg_name _ _ 2 _ sc_check_ring.nd rfl (Or.inl rfl) (by first | exact .inl rfl | exact .inr rfl | assumption)) (@pgs_cons _ _ _ _ _ (@pg_name _ _ 3 _ sc_check_ring.nd rfl (Or.inl rfl) (by first | exact .inl rfl | exact .inr rfl | assumption)) (@pgs_nil _) (by rfl)) (by rfl)) (by rfl) (by rfl)) (@pss_cons _ _ _ _ _ (@ps_if _ _ _ _ _ _ _ _ (@pt_not _ _ _ _ (@pt_val _ _ _ (@pe_fn _ _ _ _ _ _ _ _ _ _ _ _ _ _ T.is_layer_point (ok_is_layer_point T) hr (by decide) (@pa_cons _ _ _ _ _ (pv 3) (@pa_nil _) star_name) (by rfl) (by decide) (by rfl) (by rfl)) (by intro _; rfl))) (@pss_one _ _ _ (ps_raiseL T.mx_BadLayer T.kx_BadLayer T.m_BadLayer rfl (ok_BadLayer_init T) hr (by decide) T.BadLayer_init.b (@pa_cons _ _ _ _ _ (pv 0) (@pa_cons _ _ _ _ _ (pv 2) (@pa_nil _) star_name) star_name))) (@pss_nil _)) (@pss_one _ _ _ (@ps_if _ _ _ _ _ _ _ _ (PW.pt (@pw_and _ _ _ _ _ _ _ (@pt_cmpR _ _ _ _ _ _ _ _ op_gt (pv 2) (@pe_int _ _ _ _) (nomark _)) (@pw_and1 _ _ _ _ (@pt_cmpR _ _ _ _ _ _ _ _ (op_eqTI hr.units) (pv 3) (@pe_ix _ _ _ _ _ _ _ ix_list (pv 1) (@pe_op _ _ _ _ _ _ _ _ op_sub (pv 2) (@pe_int _ _ _ _)) (fun _ _ => rfl)) (nomark _))))) (@pss_one _ _ _ (ps_raiseL T.mx_BadLayer T.kx_BadLayer T.m_BadLayer rfl (ok_BadLayer_init T) hr (by decide) T.BadLayer_init.b (@pa_cons _ _ _ _ _ (pv 0) (@pa_cons _ _ _ _ _ (pv 2) (@pa_nil _) star_name) star_name))) (@pss_nil _))))) (@pss_one _ _ _ (@ps_if _ _ _ _ _ _ _ _ (@pt_cmpR _ _ _ _ _ _ _ _ (op_eqTI hr.units) (@pe_ix _ _ _ _ _ _ _ ix_list (pv 1) (@pe_int _ _ _ _) (fun _ _ => rfl)) (@pe_ix _ _ _ _ _ _ _ ix_list (pv 1) (@pe_un _ _ _ _ _ _ un_neg (@pe_int _ _ _ _)) (fun _ _ => rfl)) (nomark _)) (@pss_one _ _ _ (ps_raiseI T.mx_BadLayer T.kx_BadLayer T.m_BadLayer rfl (ok_BadLayer_init T) hr (by decide) T.BadLayer_init.b (@pa_cons _ _ _ _ _ (pv 0) (@pa_cons _ _ _ _ _ (@pe_op _ _ _ _ _ _ _ _ op_sub (@pe_callB _ _ _ _ _ _ _ _ _ call_len_seq (by rfl) T.b_len PySem.boot_len (@pa_cons _ _ _ _ _ (pv 1) (@pa_nil _) star_name) (by decide) (by decide) (by rfl) (by rfl)) (@pe_int _ _ _ _)) (@pa_nil _) star_bin) star_name))) (@pss_nil _))))), ?_⟩
    have hlo : Pu (tCall sp_is_list_of [] E0 (tCons (tVar 1) (tCons (tC (.int 3)) (tCons (tC (.int 12)) tNil)))) [some (.int k), some v, none, none] H (.bl (isLo 3 12 d)) := pu_call (pa_c (pu_v rfl) (pa_c pu_c (pa_c pu_c pa_n))) fun Q q => ⟨hd, v, d, 3, 12, rfl, hv, q⟩
    refine st_ifN (pt_n (pt_b hlo)) (fun e => ?_) fun e => ?_
    · have e1 : isLo 3 12 d = false := by simpa using e
      have e2 : ringF d = some 0 := by
        cases d with
        | lst ds =>
          show (if 3 ≤ ds.length ∧ ds.length ≤ 12 then rf (ds.map lpL) else some 0) = some 0
          rw [if_neg]
          intro h
          have e1 : (decide ((3 : Int) ≤ (ds.length : Int)) && decide ((ds.length : Int) ≤ 12)) = false := e1
          simp at e1
          omega
        | _ => rfl
      exact (pa_c (pu_v rfl) (pa_c pu_c pa_n)) _ ⟨rfl, fun dx hd' => k1 0 dx _ e2 (Same.upd hd') upd_same⟩
    have e1 : isLo 3 12 d = true := by simpa using e
    cases hv with
    | @lst l xs ds hl nl td =>
      have e2 : 3 ≤ ds.length ∧ ds.length ≤ 12 := by
        have this : (decide ((3 : Int) ≤ (ds.length : Int)) && decide ((ds.length : Int) ≤ 12)) = true := e1
        simp at this
        omega
      have e3 : ringF (.lst ds) = rf (ds.map lpL) := by
        show (if 3 ≤ ds.length ∧ ds.length ≤ 12 then rf (ds.map lpL) else some 0) = _
        rw [if_pos e2]
      rw [e3] at k0 k1
      have ll := td.len
      have pl : (ds.map lpL).length = ds.length := List.length_map _
      refine st_enum (xs := xs) (a := l) (pa_c (pu_v rfl) pa_n) (fun i σ H' => Same H H' ∧ (∃ c d' : Option V, σ = [some (.int k), some (.ref l), c, d']) ∧ ∀ j < i, badAt (ds.map lpL) j = false) ⟨Same.rfl', ⟨_, _, rfl⟩, fun j h => absurd h (Nat.not_lt_zero _)⟩ (fun i σ H' _ p => p.1 _ _ hl) ?_ ?_
      · rintro i x σ H' p ex ⟨s', ⟨c, d', rfl⟩, hj⟩ hp
        obtain ⟨di, hdi, hx⟩ := td.get ex
        have s1 : Same H' (upd H' p (.tup [.int i, x])) := Same.upd hp
        refine ⟨p, _, rfl, SqT.of upd_same, rfl, .int i, _, rfl, x, [], rfl, rfl, ?_⟩
        have hx1 := hx.same (s'.trans s1)
        have hi : i < ds.length := (List.getElem?_eq_some_iff.mp hdi).1
        have pi : (ds.map lpL)[i]? = some (lpL di) := by rw [List.getElem?_map, hdi]; rfl
        have s01 := s'.trans s1
        generalize upd H' p (.tup [.int i, x]) = H1 at hx1 s01 ⊢
        have glp : Gv (tCall sp_is_layer_point [] E0 (tCons (tVar 3) tNil)) [some (.int k), some (.ref l), some (.int i), some x] H1 (fun v H2 => v = .bl (lpL di).isSome ∧ Same H1 H2) := gv_call (pa_c (pu_v rfl) pa_n) fun Q q => ⟨hd, x, di, rfl, hx1, fun H' s => q _ _ ⟨rfl, s⟩⟩
        refine st_ifNG (R := fun b H2 => b = !((lpL di).isSome) ∧ Same H1 H2) ((gt_n (R := fun b H' => b = (lpL di).isSome ∧ Same H1 H') ((gt_b (R := fun v H' => v = .bl (lpL di).isSome ∧ Same H1 H') glp (fun v H' r => ⟨_, r.1⟩)).imp fun b H' r => ⟨by have := r.1; cases this; rfl, r.2⟩)).imp fun b H' r => ⟨by rw [← r.1]; simp, r.2⟩) (fun H2 e => ?_) fun H2 e => ?_
        · have e4 : lpL di = none := by
            have := e.1
            cases q : lpL di with
            | none => rfl
            | some ns => rw [q] at this; cases this
          have hb : badAt (ds.map lpL) i = true := by unfold badAt; rw [pi, e4]
          exact (pa_c (pu_v rfl) (pa_c (pu_v rfl) pa_n)) _ ⟨rfl, fun dx hd' => k1 i dx _ (rf_at (by rw [pl]; exact hi) hj hb) (s01.trans (e.2.trans (Same.upd hd'))) upd_same⟩
        · obtain ⟨ns, e4⟩ : ∃ ns, lpL di = some ns := by
            have := e.1
            cases q : lpL di with
            | none => rw [q] at this; cases this
            | some ns => exact ⟨ns, rfl⟩
          obtain ⟨rfl, _⟩ := lpL_some e4
          have s02 := s01.trans e.2
          have hxT : TupT H2 x ns := by
            cases hx1.same e.2 with
            | @tup a' xs' ds' h' t' =>
              obtain ⟨ms, rfl, e5⟩ := ds_whole t' (ds_all t')
              have : ns = ms := by
                have := congrArg intsD e5
                rw [intsD_ints, intsD_ints] at this
                exact Option.some.inj this
              subst this
              exact ⟨a', rfl, h'⟩
          by_cases hi0 : i = 0
          · subst hi0
            refine st_ifN1 (b := false) (pt_and (b := false) (c := true) (pt_t (pu_cast (pu_gt (pu_v rfl) pu_c) (by simp))) (fun e => by cases e)) (fun e => by cases e) (fun _ => ⟨s02, ⟨_, _, rfl⟩, fun j hjj => ?_⟩)
            have : j = 0 := by omega
            subst this
            unfold badAt
            rw [pi, e4]
            rfl
          · obtain ⟨m, rfl⟩ : ∃ m, i = m + 1 := ⟨i - 1, by omega⟩
            have hm := hj m (Nat.lt_succ_self m)
            obtain ⟨y, hy⟩ : ∃ y, xs[m]? = some y := ⟨_, List.getElem?_eq_getElem (by rw [ll]; omega)⟩
            obtain ⟨dm, hdm, hyD⟩ := td.get hy
            have pm : (ds.map lpL)[m]? = some (lpL dm) := by rw [List.getElem?_map, hdm]; rfl
            obtain ⟨ms, e5⟩ : ∃ ms, lpL dm = some ms := by
              unfold badAt at hm
              rw [pm] at hm
              cases q : lpL dm with
              | none => rw [q] at hm; cases hm
              | some ms => exact ⟨ms, rfl⟩
            obtain ⟨rfl, _⟩ := lpL_some e5
            have hyT : TupT H2 y ms := by
              cases hyD.same s02 with
              | @tup a' xs' ds' h' t' =>
                obtain ⟨ms', rfl, e6⟩ := ds_whole t' (ds_all t')
                have : ms = ms' := by
                  have := congrArg intsD e6
                  rw [intsD_ints, intsD_ints] at this
                  exact Option.some.inj this
                subst this
                exact ⟨a', rfl, h'⟩
            have hbv : badAt (ds.map lpL) (m + 1) = decide (ns = ms) := by
              unfold badAt
              rw [pi, e4]
              show (decide (0 < m + 1) && decide ((ds.map lpL)[m + 1 - 1]? = some (some ns))) = _
              rw [Nat.add_sub_cancel, pm, e5]
              simp only [Nat.zero_lt_succ, decide_true, Bool.true_and, Option.some.injEq]
              rw [decide_eq_decide]
              exact eq_comm
            refine st_ifN1 (pt_and (b := true) (pt_t (pu_cast (pu_gt (pu_v rfl) pu_c) (by congr 1; rw [decide_eq_true_iff]; omega))) fun _ => pt_t (pu_eqT (pu_v rfl) (pu_ixL (pu_v rfl) (pu_cast (pu_sub (pu_v rfl) pu_c) (show V.int _ = .int (m : Int) by congr 1; omega)) (SqL.of (s02 _ _ hl)) (atI_nat hy)) (TupT.i hxT) (TupT.i hyT))) (fun e' => ?_) fun e' => ?_
            · have e7 : ns = ms := by simpa using e'
              exact (pa_c (pu_v rfl) (pa_c (pu_v rfl) pa_n)) _ ⟨rfl, fun dx hd' => k1 (m + 1) dx _ (rf_at (by rw [pl]; exact hi) hj (by rw [hbv, e7]; simp)) (s02.trans (Same.upd hd')) upd_same⟩
            · refine ⟨s02, ⟨_, _, rfl⟩, fun j hjj => ?_⟩
              by_cases hjm : j < m + 1
              · exact hj j hjm
              · have : j = m + 1 := by omega
                subst this
                rw [hbv]
                simpa using e'
      · rintro σ H' ⟨s', ⟨c, d', rfl⟩, hj⟩
        have PT : ∀ {m : Nat} {y : V}, xs[m]? = some y → ∃ ms, (ds.map lpL)[m]? = some (some ms) ∧ TupT H' y ms := fun {m y} hy => by
          obtain ⟨dm, hdm, hyD⟩ := td.get hy
          have pm : (ds.map lpL)[m]? = some (lpL dm) := by rw [List.getElem?_map, hdm]; rfl
          have hm := hj m (by rw [← pl, ll, pl] at *; exact (List.getElem?_eq_some_iff.mp hdm).1)
          obtain ⟨ms, e5⟩ : ∃ ms, lpL dm = some ms := by
            unfold badAt at hm
            rw [pm] at hm
            cases q : lpL dm with
            | none => rw [q] at hm; cases hm
            | some ms => exact ⟨ms, rfl⟩
          obtain ⟨rfl, _⟩ := lpL_some e5
          refine ⟨ms, by rw [pm, e5], ?_⟩
          cases hyD.same s' with
          | @tup a' xs' ds' h' t' =>
            obtain ⟨ms', rfl, e6⟩ := ds_whole t' (ds_all t')
            have : ms = ms' := by
              have := congrArg intsD e6
              rw [intsD_ints, intsD_ints] at this
              exact Option.some.inj this
            subst this
            exact ⟨a', rfl, h'⟩
        obtain ⟨y0, hy0⟩ : ∃ y, xs[0]? = some y := ⟨_, List.getElem?_eq_getElem (by omega)⟩
        obtain ⟨y1, hy1⟩ : ∃ y, xs[xs.length - 1]? = some y := ⟨_, List.getElem?_eq_getElem (by omega)⟩
        obtain ⟨n0, p0, t0⟩ := PT hy0
        obtain ⟨n1, p1, t1⟩ := PT hy1
        have hat : atI xs (-1) = some y1 := by
          unfold atI ixN
          rw [if_neg (by decide), if_pos (by omega)]
          show xs[((-1 : Int) + xs.length).toNat]? = _
          rw [show ((-1 : Int) + xs.length).toNat = xs.length - 1 by omega]
          exact hy1
        have hrf : rf (ds.map lpL) = if n0 = n1 then some (ds.length - 1) else none := by
          rw [rf_end (by rw [pl]; intro j hjj; exact hj j (by omega)), pl, List.head?_eq_getElem?, List.getLast?_eq_getElem?, pl, p0, ← ll, p1]
          by_cases z : n0 = n1
          · rw [if_pos z, if_pos (by rw [z])]
          · rw [if_neg z, if_neg (fun h => z (Option.some.inj (Option.some.inj h)))]
        have hl' := s' _ _ hl
        refine st_ifN1 (pt_t (pu_eqT (pu_ixL (pu_v rfl) pu_c (SqL.of hl') (atI_nat (j := 0) hy0)) (pu_ixL (pu_v rfl) (pu_neg pu_c) (SqL.of hl') hat) (TupT.i t0) (TupT.i t1))) (fun e' => ?_) fun e' => ?_
        · have e7 : n0 = n1 := by simpa using e'
          rw [if_pos e7] at hrf
          refine (pa_c (pu_v rfl) (pa_c (pu_cast (pu_sub (pu_lenL (pa_c (pu_v rfl) pa_n) (SqL.of hl')) pu_c) (show V.int _ = .int ((ds.length - 1 : Nat) : Int) by congr 1; omega)) pa_n)) _ ⟨rfl, fun dx hd' => k1 (ds.length - 1) dx _ hrf (s'.trans (Same.upd hd')) upd_same⟩
        · have e7 : ¬ n0 = n1 := by simpa using e'
          rw [if_neg e7] at hrf
          exact k0 hrf _ s'
    | _ => cases e1
def firstF : Nat → List D → Option (Nat × Nat)
  | _, [] => none
  | k, d :: r => match ringF d with
    | some j => some (k, j)
    | none => firstF (k + 1) r
/-- the first fault of what is told to be a layer -/
def layF : D → Option (Nat × Nat)
  | .lst ds => if 1 ≤ ds.length ∧ ds.length ≤ 4 then firstF 0 ds else some (0, 0)
  | _ => some (0, 0)
theorem firstF_at : ∀ {ds : List D} {i k j : Nat} {d : D}, ds[i]? = some d → (∀ m < i, ∀ d', ds[m]? = some d' → ringF d' = none) → ringF d = some j → firstF k ds = some (k + i, j)
  | e :: r, 0, k, j, d, h, _, hj => by
    cases h
    show (match ringF e with | some j => some (k, j) | none => firstF (k + 1) r) = _
    rw [hj]
    rfl
  | e :: r, i + 1, k, j, d, h, hm, hj => by
    have h0 := hm 0 (Nat.zero_lt_succ _) e rfl
    show (match ringF e with | some j => some (k, j) | none => firstF (k + 1) r) = _
    rw [h0]
    show firstF (k + 1) r = _
    rw [firstF_at (i := i) h (fun m hmi d' hd => hm (m + 1) (Nat.succ_lt_succ hmi) d' hd) hj]
    congr 2
    omega
theorem firstF_none : ∀ {ds : List D} {k : Nat}, (∀ (m : Nat) d', ds[m]? = some d' → ringF d' = none) → firstF k ds = none
  | [], _, _ => rfl
  | e :: r, k, h => by
    show (match ringF e with | some j => some (k, j) | none => firstF (k + 1) r) = none
    rw [h 0 e rfl]
    exact firstF_none fun m d' hd => h (m + 1) d' hd
theorem lpL_all : ∀ {ds : List D}, (∀ (m : Nat) d', ds[m]? = some d' → ∃ ns, lpL d' = some ns) → ∃ nss : List (List Int), ds = nss.map (fun ns => .tup (ns.map D.int)) ∧ ∀ ns ∈ nss, lpI ns = true
  | [], _ => ⟨[], rfl, fun _ h => nomatch h⟩
  | d :: r, h => by
    obtain ⟨ns, e⟩ := h 0 d rfl
    obtain ⟨rfl, e2⟩ := lpL_some e
    obtain ⟨nss, rfl, e3⟩ := lpL_all fun m d' hd => h (m + 1) d' hd
    exact ⟨ns :: nss, rfl, fun ms hm => by
      rcases List.mem_cons.mp hm with rfl | hm
      · exact e2
      · exact e3 ms hm⟩
/-- a ring without a fault -/
theorem ringF_good {d : D} (h : ringF d = none) : ∃ nss : List (List Int), d = .lst (nss.map (fun ns => .tup (ns.map D.int))) ∧ nss.length ≤ 12 ∧ 3 ≤ nss.length ∧ ∀ ns ∈ nss, lpI ns = true := by
  cases d with
  | lst ds =>
    have h' : (if 3 ≤ ds.length ∧ ds.length ≤ 12 then rf (ds.map lpL) else some 0) = none := h
    split at h'
    · rename_i hl
      have hf : (List.range (ds.map lpL).length).find? (badAt (ds.map lpL)) = none := by
        unfold rf at h'
        cases q : (List.range (ds.map lpL).length).find? (badAt (ds.map lpL)) with
        | none => rfl
        | some j => rw [q] at h'; cases h'
      rw [List.find?_eq_none] at hf
      obtain ⟨nss, rfl, e⟩ := lpL_all (ds := ds) fun m d' hd => by
        have hm : m < ds.length := (List.getElem?_eq_some_iff.mp hd).1
        have := hf m (List.mem_range.mpr (by rw [List.length_map]; exact hm))
        unfold badAt at this
        rw [List.getElem?_map, hd] at this
        cases q : lpL d' with
        | some ns => exact ⟨ns, rfl⟩
        | none =>
          simp only [Option.map_some] at this
          rw [q] at this
          exact absurd rfl this
      rw [List.length_map] at hl
      exact ⟨nss, rfl, hl.2, hl.1, e⟩
    · cases h'
  | _ => cases h
theorem ds_tups {hd : Addr} {H : Hp} : ∀ {vs : List V} {nss : List (List Int)}, DsAt hd H vs (nss.map (fun ns => .tup (ns.map D.int))) → TupsT H vs nss
  | _, [], .nil => .nil
  | _, ns :: nss, .cons h t => .cons (by
      cases h with
      | @tup a xs ds h t =>
        obtain ⟨ms, rfl, e⟩ := ds_whole t (ds_all t)
        have : ns = ms := by
          have := congrArg intsD e
          rw [intsD_ints, intsD_ints] at this
          exact Option.some.inj this
        subst this
        exact ⟨a, rfl, h⟩) (ds_tups t)
/-- rings of a layer, laid anew -/
def RowI (ds : List D) : Hp → Nat → Addr → Prop := fun H i p => ∃ nss xs, ds[i]? = some (.lst (nss.map fun ns => .tup (ns.map D.int))) ∧ H p = some (.lst xs) ∧ TupsT H xs nss
theorem stays_rowI (ds : List D) : Stays (RowI ds) where
  same := fun ⟨nss, xs, h1, h2, h3⟩ s => ⟨nss, xs, h1, s _ _ h2, h3.mono fun _ _ t => t.same s⟩
  but := fun ⟨nss, xs, h1, h2, h3⟩ n hD s => ⟨nss, xs, h1, s _ _ h2 n, h3.mono fun _ _ t => by
    obtain ⟨a, rfl, ha⟩ := t
    exact ⟨a, rfl, s _ _ ha fun e => by rw [e, hD] at ha; cases ha⟩⟩
  here := fun ⟨nss, xs, h1, h2, h3⟩ e => by rw [h2] at e; cases e
/-- what the program tells of a thing that it refuses -/
def RefD (H : Hp) (d : D) (v : V) : Prop := match layF d with
  | none => v = .non
  | some (k, j) => TupT H v [(k : Int), (j : Int)]
def spx_layer_of (t : Adr) : Sp := fun vs H Q E => ∃ (hd : Addr) (v : V) (d : D), vs = [v] ∧ DAt hd H v d ∧ (∀ ds r H', d = .lst ds → layF d = none → Laid (RowI ds) H ds.length r H' → Q r H') ∧ ∀ (k j : Nat) dx H', layF d = some (k, j) → Same H H' → H' dx = some (.ext (xdI dx [(Str.ofString "ring", .int k), (Str.ofString "at", .int j)])) → E (.ref t.c_BadLayer) (some dx) H'
theorem sc_layer_of : FnScope ["rings", "number", "ring"] ["rings"] (defScope s_layer_of) := ⟨rfl, rfl, rfl, by decide +kernel, rfl, by decide +kernel, by decide +kernel⟩
theorem okx_layer_of (T : Txt K mg t) : FnOk P w K mg base (CXD P w) 5 t.f_layer_of t.d_layer_of ["rings"] (spx_layer_of t) := by
  refine T.layer_of.F.okD (k := 4) sc_layer_of (fun vs H Q E h => ?_) (fun cdv A outer s H vs Q E hr h => ?_)
  · obtain ⟨hd, v, d, rfl, _⟩ := h
    rfl
  · obtain ⟨hd, v, d, rfl, hv, k0, k1⟩ := h
    refine ⟨_, (@pss_cons _ _ _ _ _ (@ps_if _ _ _ _ _ _ _ _ (@pt_not _ _ _ _ (@pt_val _ _ _ (@pe_fn _ _ _ _ _ _ _ _ _ _ _ _ _ _ T.is_list_of (ok_is_list_of T) hr (by decide) (@pa_cons _ _ _ _ _ (pv 0) (@pa_cons _ _ _ _ _ (@pe_int _ _ _ _) (@pa_cons _ _ _ _ _ (@pe_konI _ _ _ _ T.k_MOST_RINGS (by rfl) (by decide)) (@pa_nil _) star_name) star_con) star_name) (by rfl) (by decide) (by rfl) (by rfl)) (by intro _; rfl))) (@pss_one _ _ _ (ps_raiseI T.mx_BadLayer T.kx_BadLayer T.m_BadLayer rfl (ok_BadLayer_init T) hr (by decide) T.BadLayer_init.b (@pa_cons _ _ _ _ _ (@pe_int _ _ _ _) (@pa_cons _ _ _ _ _ (@pe_int _ _ _ _) (@pa_nil _) star_con) star_con))) (@pss_nil _)) (@pss_cons _ _ _ _ _ (ps_forD rfl rfl (pi_enum rfl T.b_enumerate PyProof.Rows.boot_enumerate (@pa_cons _ _ _ _ _ (pv 0) (@pa_nil _) star_name)) (@pg_tup _ _ _ _ _ _ rfl (@pgs_cons _ _ _ _ _ (@pg_name _ _ 1 _ sc_layer_of.nd rfl (Or.inl rfl) (by first | exact .inl rfl | exact .inr rfl | assumption)) (@pgs_cons _ _ _ _ _ (@pg_name _ _ 2 _ sc_layer_of.nd rfl (Or.inl rfl) (by first | exact .inl rfl | exact .inr rfl | assumption)) (@pgs_nil _) (by rfl)) (by rfl)) (by rfl) (by rfl)) (@pss_one _ _ _ (@ps_expr _ _ _ _ (@pe_fnD _ _ _ _ _ _ _ _ _ _ _ _ _ _ _ _ _ T.check_ring (okx_check_ring T) hr (by decide) passOD (@pa_cons _ _ _ _ _ (pv 1) (@pa_cons _ _ _ _ _ (pv 2) (@pa_nil _) star_name) star_name) (by rfl) (by decide) (by rfl) (by rfl)) (by rfl)))) (@pss_one _ _ _ (@ps_ret _ _ _ _ (@pe_lcomp _ _ _ _ _ [] _ ["ring"] _ (fun _ => [none]) _ _ rfl (@pi_list _ _ _ _ (pv 0)) (fun _ _ _ _ => pg_name (i := 0) (List.nodup_cons.mpr ⟨fun h => (nomatch h), List.nodup_nil⟩) rfl (Or.inl rfl) (.inr rfl)) (fun _ _ _ _ => (@pe_callTy _ _ _ _ _ _ _ _ _ (call_list_ofK (K := K) rfl) (by rfl) T.b_list PyProof.Rows.boot_list (@pa_cons _ _ _ _ _ (pv 0) (@pa_nil _) star_name) (by decide) (by decide) (by rfl) (by rfl))) (closureFor_none (by decide +kernel)) rfl (by decide +kernel) (by decide +kernel) (fun _ _ h => by cases h) (noCells (by rfl)) (fun _ _ => rfl) (fun _ i _ _ _ h => by cases i with | zero => cases h | succ i => simp at h) (by intro _; rfl)))))), ?_⟩
    have hlo : Pu (tCall sp_is_list_of [] E0 (tCons (tVar 0) (tCons (tC (.int 1)) (tCons (tC (.int 4)) tNil)))) [some v, none, none] H (.bl (isLo 1 4 d)) := pu_call (pa_c (pu_v rfl) (pa_c pu_c (pa_c pu_c pa_n))) fun Q q => ⟨hd, v, d, 1, 4, rfl, hv, q⟩
    refine st_ifN (pt_n (pt_b hlo)) (fun e => ?_) fun e => ?_
    · have e1 : isLo 1 4 d = false := by simpa using e
      have e2 : layF d = some (0, 0) := by
        cases d with
        | lst ds =>
          show (if 1 ≤ ds.length ∧ ds.length ≤ 4 then firstF 0 ds else some (0, 0)) = some (0, 0)
          rw [if_neg]
          intro h
          have e1 : (decide ((1 : Int) ≤ (ds.length : Int)) && decide ((ds.length : Int) ≤ 4)) = false := e1
          simp at e1
          omega
        | _ => rfl
      exact (pa_c pu_c (pa_c pu_c pa_n)) _ ⟨rfl, fun dx hd' => k1 0 0 dx _ e2 (Same.upd hd') upd_same⟩
    have e1 : isLo 1 4 d = true := by simpa using e
    cases hv with
    | @lst l xs ds hl nl td =>
      have e2 : 1 ≤ ds.length ∧ ds.length ≤ 4 := by
        have this : (decide ((1 : Int) ≤ (ds.length : Int)) && decide ((ds.length : Int) ≤ 4)) = true := e1
        simp at this
        omega
      have e3 : layF (.lst ds) = firstF 0 ds := by
        show (if 1 ≤ ds.length ∧ ds.length ≤ 4 then firstF 0 ds else some (0, 0)) = _
        rw [if_pos e2]
      have ll := td.len
      refine st_enum (xs := xs) (a := l) (pa_c (pu_v rfl) pa_n) (fun i σ H' => Same H H' ∧ (∃ c d' : Option V, σ = [some (.ref l), c, d']) ∧ ∀ j < i, ∀ d', ds[j]? = some d' → ringF d' = none) ⟨Same.rfl', ⟨_, _, rfl⟩, fun j h => absurd h (Nat.not_lt_zero _)⟩ (fun i σ H' _ p => p.1 _ _ hl) ?_ ?_
      · rintro i x σ H' p ex ⟨s', ⟨c, d', rfl⟩, hj⟩ hp
        obtain ⟨di, hdi, hx⟩ := td.get ex
        have s1 : Same H' (upd H' p (.tup [.int i, x])) := Same.upd hp
        refine ⟨p, _, rfl, SqT.of upd_same, rfl, .int i, _, rfl, x, [], rfl, rfl, ?_⟩
        have s01 := s'.trans s1
        have hx1 := hx.same s01
        dsimp only [tDrop, tCall]
        refine (pa_c (pu_v rfl) (pa_c (pu_v rfl) pa_n)) _ ?_
        refine ⟨hd, x, di, i, rfl, hx1, fun hn H2 s2 => ⟨s01.trans s2, ⟨_, _, rfl⟩, fun j hjj d2 hd2 => ?_⟩, fun j dx H2 hf s2 hdx => k1 i j dx H2 ?_ (s01.trans s2) hdx⟩
        · by_cases z : j < i
          · exact hj j z d2 hd2
          · have : j = i := by omega
            subst this
            rw [hdi] at hd2
            cases hd2
            exact hn
        · rw [e3, firstF_at hdi hj hf, Nat.zero_add]
      · rintro σ H' ⟨s', ⟨c, d', rfl⟩, hj⟩
        have hg : ∀ (m : Nat) d', ds[m]? = some d' → ringF d' = none := fun m d' hd' => hj m (by rw [ll]; exact (List.getElem?_eq_some_iff.mp hd').1) d' hd'
        refine st_retG (gv_compLG (stays_rowI ds) (pu_v rfl) (s' _ _ hl) (by omega) (fun _ => KeepS.none1) fun i x H2 ex s2 => ?_) ?_
        · obtain ⟨di, hdi, hx⟩ := td.get ex
          obtain ⟨nss, rfl, n1, n2, n3⟩ := ringF_good (hg i di hdi)
          cases hx.same (s'.trans s2) with
          | @lst l2 xs2 ds2 hl2 _ td2 =>
            refine fun Q q => (pa_c (pu_v rfl) pa_n : PuA (tCons (tVar 0) tNil) _ _ [.ref l2]) _ ⟨l2, _, rfl, .inl (SqL.of hl2), fun p hp => q _ _ ⟨Same.upd hp, p, rfl, hp, nss, xs2, hdi, upd_same, (ds_tups td2).mono fun _ _ t => t.same (Same.upd hp)⟩⟩
        · rintro r H2 ⟨s2, D, ps, rfl, hD, hD2, hpl, hps⟩
          refine k0 ds _ H2 rfl (by rw [e3]; exact firstF_none hg) ⟨s'.trans s2, D, ps, rfl, same_none s' hD, hD2, by rw [hpl, ll], fun i p hp => ⟨(hps i p hp).1, (hps i p hp).2.1, same_none s' (hps i p hp).2.2⟩⟩
    | _ => cases e1
def sp_l_hand (K : PySem.W.Frag) : Sp := fun vs H Q _ => ∃ (a : Addr) (ns : List Int), vs = [.ref a] ∧ SqL K H a (ns.map V.int) ∧ ∀ hd sc H', Same H H' → H hd = none → HandAt H' hd sc → Q (.ref hd) H'
theorem sc_l_hand : FnScope ["_law_script"] ["_law_script"] (defScope s_l_hand) := ⟨rfl, rfl, rfl, by decide +kernel, rfl, by decide +kernel, by decide +kernel⟩
theorem ok_l_hand (T : Txt K mg t) : FnOk P w K mg base CX0 1 t.f_l_hand t.d_l_hand ["_law_script"] (sp_l_hand K) := by
  refine T.l_hand.F.ok (k := 0) sc_l_hand (fun vs H Q E h => ?_) (fun cdv A outer s H vs Q E hr h => ?_)
  · obtain ⟨a, ns, rfl, _⟩ := h
    rfl
  · obtain ⟨a, ns, rfl, hS, k⟩ := h
    refine ⟨_, (@pss_one _ _ _ (@ps_ret _ _ _ _ (@pe_lst _ _ _ _ (@pa_cons _ _ _ _ _ (@pe_callTy _ _ _ _ _ _ _ _ _ call_list_of (by rfl) T.b_list PyProof.Rows.boot_list (@pa_cons _ _ _ _ _ (@pe_slice _ _ _ _ _ _ _ _ _ _ sl_list (pv 0) (@po_none _) (@po_some _ _ _ (@pe_int _ _ _ _))) (@pa_nil _) star_sub) (by decide) (by decide) (by rfl) (by rfl)) (@pa_cons _ _ _ _ _ (@pe_int _ _ _ _) (@pa_cons _ _ _ _ _ (@pe_int _ _ _ _) (@pa_cons _ _ _ _ _ (@pe_int _ _ _ _) (@pa_cons _ _ _ _ _ (@pe_int _ _ _ _) (@pa_cons _ _ _ _ _ (@pe_int _ _ _ _) (@pa_nil _) star_con) star_con) star_con) star_con) star_con) star_call)))), ?_⟩
    refine ⟨_, rfl, 63, rfl, a, _, rfl, hS, fun p hp => ?_⟩
    refine ⟨p, _, rfl, .inl (SqL.of upd_same), fun l hl => ⟨by show 6 ≤ sizeLine; decide, fun hd hh => ?_⟩⟩
    have s1 : Same H (upd H p (.lst (cutV (ns.map V.int) none (some 63)))) := Same.upd hp
    have s2 : Same (upd H p (.lst (cutV (ns.map V.int) none (some 63)))) _ := Same.upd (o := .lst (cutV (ns.map V.int) none (some 63))) hl
    have s3 := s1.trans (s2.trans (Same.upd (o := .lst [.ref l, .int 0, .int 0, .int 0, .int 20011, .int 40009]) hh))
    refine k hd l _ s3 (s1.free (s2.free hh)) ⟨(ns.drop (HT.sIx (ns.map V.int).length 0 none)).take (HT.sIx (ns.map V.int).length (ns.map V.int).length (some 63) - HT.sIx (ns.map V.int).length 0 none), 0, 0, 0, 20011, 40009, upd_same, ?_, by decide⟩
    rw [upd_ne (ne_of_none upd_same hh), upd_same, List.map_take, List.map_drop]
    rfl
def sp_l_next : Sp := fun vs H Q _ => ∃ hd sc, vs = [.ref hd] ∧ HandAt H hd sc ∧ ∀ (n : Int) H', HandAt H' hd sc → SameB hd H H' → Q (.int n) H'
theorem sc_l_next : FnScope ["_law_hand_here"] ["_law_hand_here"] (defScope s_l_next) := ⟨rfl, rfl, rfl, by decide +kernel, rfl, by decide +kernel, by decide +kernel⟩
theorem ok_l_next (T : Txt K mg t) : FnOk P w K mg base CX0 1 t.f_l_next t.d_l_next ["_law_hand_here"] sp_l_next := by
  refine T.l_next.F.ok (k := 0) sc_l_next (fun vs H Q E h => ?_) (fun cdv A outer s H vs Q E hr h => ?_)
  · obtain ⟨hd, sc, rfl, _⟩ := h
    rfl
  · obtain ⟨hd, sc, rfl, ⟨ns, i, b, c, p, q, h1, h2, h0⟩, k⟩ := h
    have nsc := HandAt.ne h1 h2
    refine ⟨_, (@pss_cons _ _ _ _ _ (@ps_asg _ _ _ _ _ _ (@pe_op _ _ _ _ _ _ _ _ op_modN (@pe_op _ _ _ _ _ _ _ _ op_mulB (@pe_ix _ _ _ _ _ _ _ ix_list (pv 0) (@pe_int _ _ _ _) (fun _ _ => rfl)) (@pe_int _ _ _ _)) (@pe_int _ _ _ _)) (@pg_sub _ _ _ _ _ _ _ (pv 0) (@pe_int _ _ _ _) set_list (by intro _; rfl)) (by rfl) (by rfl) (by rfl)) (@pss_cons _ _ _ _ _ (@ps_asg _ _ _ _ _ _ (@pe_op _ _ _ _ _ _ _ _ op_modN (@pe_op _ _ _ _ _ _ _ _ op_mulB (@pe_ix _ _ _ _ _ _ _ ix_list (pv 0) (@pe_int _ _ _ _) (fun _ _ => rfl)) (@pe_int _ _ _ _)) (@pe_int _ _ _ _)) (@pg_sub _ _ _ _ _ _ _ (pv 0) (@pe_int _ _ _ _) set_list (by intro _; rfl)) (by rfl) (by rfl) (by rfl)) (@pss_one _ _ _ (@ps_ret _ _ _ _ (@pe_op _ _ _ _ _ _ _ _ op_add (@pe_ix _ _ _ _ _ _ _ ix_list (pv 0) (@pe_int _ _ _ _) (fun _ _ => rfl)) (@pe_ix _ _ _ _ _ _ _ ix_list (pv 0) (@pe_int _ _ _ _) (fun _ _ => rfl))))))), ?_⟩
    refine st_put (pu_mod (pu_mul (pu_ixL (pu_v rfl) pu_c (SqL.of h1) rfl) pu_c (IntMulOk.of_right (by decide))) pu_c (by decide)) (pu_v rfl) pu_c h1 rfl ?_
    refine st_put (pu_mod (pu_mul (pu_ixL (pu_v rfl) pu_c (SqL.of upd_same) rfl) pu_c (IntMulOk.of_right (by decide))) pu_c (by decide)) (pu_v rfl) pu_c upd_same rfl ?_
    refine st_ret (pu_add (pu_ixL (pu_v rfl) pu_c (SqL.of upd_same) rfl) (pu_ixL (pu_v rfl) pu_c (SqL.of upd_same) rfl)) ?_
    exact k _ _ ⟨ns, i, b, c, _, _, upd_same, by rw [upd_ne nsc, upd_ne nsc]; exact h2, h0⟩ (SameB.upd.trans SameB.upd)
def sp_l_take : Sp := fun vs H Q _ => ∃ hd sc, vs = [.ref hd] ∧ HandAt H hd sc ∧ ∀ H', HandAt H' hd sc → SameB hd H H' → Q .non H'
theorem sc_l_take : FnScope ["_law_hand_here", "_law_cell"] ["_law_hand_here"] (defScope s_l_take) := ⟨rfl, rfl, rfl, by decide +kernel, rfl, by decide +kernel, by decide +kernel⟩
theorem ok_l_take (T : Txt K mg t) : FnOk P w K mg base CX0 2 t.f_l_take t.d_l_take ["_law_hand_here"] sp_l_take := by
  refine T.l_take.F.ok (k := 1) sc_l_take (fun vs H Q E h => ?_) (fun cdv A outer s H vs Q E hr h => ?_)
  · obtain ⟨hd, sc, rfl, _⟩ := h
    rfl
  · obtain ⟨hd, sc, rfl, ⟨ns, i, b, c, p, q, h1, h2, h0⟩, k⟩ := h
    have nsc := HandAt.ne h1 h2
    refine ⟨_, (@pss_cons _ _ _ _ _ (@ps_set _ _ 1 _ _ _ _ sc_l_take.nd rfl (Or.inl rfl) (@pe_int _ _ _ _) (by rfl) (by first | exact .inl rfl | exact .inr rfl | assumption)) (@pss_cons _ _ _ _ _ (@ps_if _ _ _ _ _ _ _ _ (@pt_cmpR _ _ _ _ _ _ _ _ op_lt (@pe_ix _ _ _ _ _ _ _ ix_list (pv 0) (@pe_int _ _ _ _) (fun _ _ => rfl)) (@pe_callB _ _ _ _ _ _ _ _ _ call_len_seq (by rfl) T.b_len PySem.boot_len (@pa_cons _ _ _ _ _ (@pe_ix _ _ _ _ _ _ _ ix_list (pv 0) (@pe_int _ _ _ _) (fun _ _ => rfl)) (@pa_nil _) star_sub) (by decide) (by decide) (by rfl) (by rfl)) (nomark _)) (@pss_one _ _ _ (@ps_set _ _ 1 _ _ _ _ sc_l_take.nd rfl (Or.inl rfl) (@pe_callB _ _ _ _ _ _ _ _ _ call_abs (by rfl) T.b_abs PyProof.Rows.boot_abs (@pa_cons _ _ _ _ _ (@pe_ix _ _ _ _ _ _ _ ix_list (@pe_ix _ _ _ _ _ _ _ ix_list (pv 0) (@pe_int _ _ _ _) (fun _ _ => rfl)) (@pe_ix _ _ _ _ _ _ _ ix_list (pv 0) (@pe_int _ _ _ _) (fun _ _ => rfl)) (fun _ _ => rfl)) (@pa_nil _) star_sub) (by decide) (by decide) (by rfl) (by rfl)) (by rfl) (by first | exact .inl rfl | exact .inr rfl | assumption))) (@pss_nil _)) (@pss_cons _ _ _ _ _ (@ps_augS _ _ _ _ _ _ _ _ _ _ _ _ _ (pv 0) (@pe_int _ _ _ _) get_list (@pe_int _ _ _ _) ip_add set_list (by intros; rfl)) (@pss_cons _ _ _ _ _ (@ps_if _ _ _ _ _ _ _ _ (@pt_cmpR _ _ _ _ _ _ _ _ op_ge (pv 1) (@pe_op _ _ _ _ _ _ _ _ op_pow (@pe_int _ _ _ _) (@pe_int _ _ _ _)) (nomark _)) (@pss_one _ _ _ (@ps_asg _ _ _ _ _ _ (pv 1) (@pg_sub _ _ _ _ _ _ _ (pv 0) (@pe_int _ _ _ _) set_list (by intro _; rfl)) (by rfl) (by rfl) (by rfl))) (@pss_one _ _ _ (@ps_asg _ _ _ _ _ _ (@pe_int _ _ _ _) (@pg_sub _ _ _ _ _ _ _ (pv 0) (@pe_int _ _ _ _) set_list (by intro _; rfl)) (by rfl) (by rfl) (by rfl)))) (@pss_cons _ _ _ _ _ (@ps_asg _ _ _ _ _ _ (@pe_op _ _ _ _ _ _ _ _ op_add (@pe_op _ _ _ _ _ _ _ _ op_modN (@pe_op _ _ _ _ _ _ _ _ op_add (@pe_ix _ _ _ _ _ _ _ ix_list (pv 0) (@pe_int _ _ _ _) (fun _ _ => rfl)) (@pe_op _ _ _ _ _ _ _ _ op_modN (pv 1) (@pe_int _ _ _ _))) (@pe_int _ _ _ _)) (@pe_int _ _ _ _)) (@pg_sub _ _ _ _ _ _ _ (pv 0) (@pe_int _ _ _ _) set_list (by intro _; rfl)) (by rfl) (by rfl) (by rfl)) (@pss_cons _ _ _ _ _ (@ps_asg _ _ _ _ _ _ (@pe_op _ _ _ _ _ _ _ _ op_add (@pe_op _ _ _ _ _ _ _ _ op_modN (@pe_op _ _ _ _ _ _ _ _ op_add (@pe_op _ _ _ _ _ _ _ _ op_mulB (@pe_ix _ _ _ _ _ _ _ ix_list (pv 0) (@pe_int _ _ _ _) (fun _ _ => rfl)) (@pe_int _ _ _ _)) (@pe_op _ _ _ _ _ _ _ _ op_modN (pv 1) (@pe_int _ _ _ _))) (@pe_int _ _ _ _)) (@pe_int _ _ _ _)) (@pg_sub _ _ _ _ _ _ _ (pv 0) (@pe_int _ _ _ _) set_list (by intro _; rfl)) (by rfl) (by rfl) (by rfl)) (@pss_cons _ _ _ _ _ (@ps_expr _ _ _ _ (@pe_fn _ _ _ _ _ _ _ _ _ _ _ _ _ _ T.l_next (ok_l_next T) hr (by decide) (@pa_cons _ _ _ _ _ (pv 0) (@pa_nil _) star_name) (by rfl) (by decide) (by rfl) (by rfl)) (by rfl)) (@pss_one _ _ _ (@ps_expr _ _ _ _ (@pe_fn _ _ _ _ _ _ _ _ _ _ _ _ _ _ T.l_next (ok_l_next T) hr (by decide) (@pa_cons _ _ _ _ _ (pv 0) (@pa_nil _) star_name) (by rfl) (by decide) (by rfl) (by rfl)) (by rfl)))))))))), ?_⟩
    refine st_set pu_c ?_
    refine st_ifSet (R := fun v H' => H = H' ∧ ∃ cell : Int, v = .int cell) (v0 := .int 0) (pt_t (pu_lt (pu_ixL (pu_v rfl) pu_c (SqL.of h1) rfl) (pu_lenL (pa_c (pu_ixL (pu_v rfl) pu_c (SqL.of h1) rfl) pa_n) (SqL.of h2)))) (fun e => ?_) rfl (fun _ => ⟨rfl, 0, rfl⟩) ?_
    · have e' : i < ((ns.map V.int).length : Int) := by simpa using e
      rw [List.length_map] at e'
      obtain ⟨m, hm⟩ : ∃ m, ns[i.toNat]? = some m := ⟨_, List.getElem?_eq_getElem (by omega)⟩
      have hat : atI (ns.map V.int) i = some (.int m) := by
        have := atI_nat (xs := ns.map V.int) (j := i.toNat) (v := .int m) (by rw [List.getElem?_map, hm]; rfl)
        rwa [show ((i.toNat : Nat) : Int) = i by omega] at this
      exact (pu_abs (pa_c (pu_ixL (pu_ixL (pu_v rfl) pu_c (SqL.of h1) rfl) (pu_ixL (pu_v rfl) pu_c (SqL.of h1) rfl) (SqL.of h2) hat) pa_n)).gv' ⟨rfl, _, rfl⟩
    rintro v H' ⟨rfl, cell, rfl⟩
    refine st_augI (pu_v rfl) pu_c (by decide) h1 rfl pu_c rfl ?_
    refine st_if (pt_t (pu_ge (pu_v rfl) (pu_pow pu_c pu_c ⟨by decide, by decide, by decide⟩))) (fun _ => st_put1 (pu_v rfl) (pu_v rfl) pu_c upd_same rfl ?_) (fun _ => st_put1 pu_c (pu_v rfl) pu_c upd_same rfl ?_)
    all_goals
      refine st_put (pu_add (pu_mod (pu_add (pu_ixL (pu_v rfl) pu_c (SqL.of upd_same) rfl) (pu_mod (pu_v rfl) pu_c (by decide))) pu_c (by decide)) pu_c) (pu_v rfl) pu_c upd_same rfl ?_
      refine st_put (pu_add (pu_mod (pu_add (pu_mul (pu_ixL (pu_v rfl) pu_c (SqL.of upd_same) rfl) pu_c (IntMulOk.of_right (by decide))) (pu_mod (pu_v rfl) pu_c (by decide))) pu_c (by decide)) pu_c) (pu_v rfl) pu_c upd_same rfl ?_
      refine st_exprG (R := fun _ H' => HandAt H' hd sc ∧ SameB hd H H') (gv_call (pa_c (pu_v rfl) pa_n) fun Q f => ⟨hd, sc, rfl, ⟨ns, _, _, _, _, _, upd_same, by rw [upd_ne nsc, upd_ne nsc, upd_ne nsc, upd_ne nsc]; exact h2, (by omega : 0 ≤ i + 1)⟩, fun n H' a s => f _ _ ⟨a, ((SameB.upd.trans SameB.upd).trans (SameB.upd.trans SameB.upd)).trans s⟩⟩) ?_
      rintro _ H1 ⟨a1, s1⟩
      refine st_exprG1 (R := fun _ H' => HandAt H' hd sc ∧ SameB hd H H') (gv_call (pa_c (pu_v rfl) pa_n) fun Q f => ⟨hd, sc, rfl, a1, fun n H' a s => f _ _ ⟨a, s1.trans s⟩⟩) ?_
      rintro _ H2 ⟨a2, s2⟩
      exact k _ a2 s2
def sp_l_draw : Sp := fun vs H Q _ => ∃ hd sc m, vs = [.ref hd, .int m] ∧ HandAt H hd sc ∧ 0 < m ∧ Bd 9000 m ∧ ∀ (n : Int) H', 0 ≤ n → n < m → HandAt H' hd sc → SameB hd H H' → Q (.int n) H'
/-- draw(hand, m), m known -/
theorem gv_draw {σ : L2.St} {H : Hp} {hd sc : Addr} {t : TA} {m : Int} (hh : HandAt H hd sc) (ha : PuA t σ H [.ref hd, .int m]) (h0 : 0 < m) (hb : Bd 9000 m) : Gv (tCall sp_l_draw [] E0 t) σ H (fun v H' => (∃ n : Int, v = .int n ∧ 0 ≤ n ∧ n < m) ∧ HandAt H' hd sc ∧ SameB hd H H') :=
  gv_call ha fun Q f => ⟨hd, sc, m, rfl, hh, h0, hb, fun n H' z0 z1 a s => f _ _ ⟨⟨n, rfl, z0, z1⟩, a, s⟩⟩
theorem pick_of {xs : List V} {ys : List Int} {m : Int} (e : xs = ys.map V.int) (h : ∀ y ∈ ys, 0 < y ∧ y ≤ m) {n : Int} (h0 : 0 ≤ n) (h1 : n < ys.length) : ∃ y : Int, atI xs n = some (.int y) ∧ 0 < y ∧ y ≤ m := by
  subst e
  have hl : n.toNat < ys.length := by omega
  refine ⟨ys[n.toNat], ?_, h _ (List.getElem_mem hl)⟩
  have := atI_nat (xs := ys.map V.int) (j := n.toNat) (v := .int ys[n.toNat]) (by simp [hl])
  rwa [show ((n.toNat : Nat) : Int) = n by omega] at this
/-- [..][draw(hand, so many)] -/
theorem gv_pick {K : PySem.W.Frag} {σ : L2.St} {H : Hp} {hd sc : Addr} {t ta : TA} {ys : List Int} {m : Int} (hh : HandAt H hd sc) (hl : PuA ta σ H (ys.map V.int)) (hz : ys.length ≤ 1000) (h0 : 0 < ys.length) (hy : ∀ y ∈ ys, 0 < y ∧ y ≤ m)
    (ha : ∀ H', PuA t σ H' [.ref hd, .int (ys.length : Nat)]) : Gv (tOp (rIxL K) (tLst ta) (tCall sp_l_draw [] E0 t)) σ H (fun v H' => (∃ n : Int, v = .int n ∧ 0 < n ∧ n ≤ m) ∧ HandAt H' hd sc ∧ SameB hd H H') := by
  intro Q f
  refine gv_lst hl (by rw [List.length_map]; exact Nat.le_of_lt (small1000 hz)) _ ?_
  rintro _ _ ⟨p, hp, rfl, rfl⟩
  have s0 := Same.upd (o := .lst (ys.map V.int)) hp
  refine gv_draw (hh.same s0) (ha _) (by omega) (Bd.small (by omega)) _ ?_
  rintro _ H1 ⟨⟨n, rfl, z0, z1⟩, hh1, s1⟩
  obtain ⟨y, ey, y0, y1⟩ := pick_of (xs := ys.map V.int) rfl hy z0 z1
  obtain ⟨zs, hzs⟩ := hh.ls
  exact ⟨p, _, n, .int y, rfl, rfl, SqL.of (s1 _ _ upd_same (Ne.symm (ne_of_none hzs hp))), ey, f _ _ ⟨⟨y, rfl, y0, y1⟩, hh1, s0.b.trans s1⟩⟩
theorem sc_l_draw : FnScope ["_law_hand_here", "_law_many", "_law_got", "_law_value", "_law_size"] ["_law_hand_here", "_law_many"] (defScope s_l_draw) := ⟨rfl, rfl, rfl, by decide +kernel, rfl, by decide +kernel, by decide +kernel⟩
theorem ok_l_draw (T : Txt K mg t) : FnOk P w K mg base CX0 3 t.f_l_draw t.d_l_draw ["_law_hand_here", "_law_many"] sp_l_draw := by
  refine T.l_draw.F.ok (k := 2) sc_l_draw (fun vs H Q E h => ?_) (fun cdv A outer s H vs Q E hr h => ?_)
  · obtain ⟨hd, sc, m, rfl, _⟩ := h
    rfl
  · obtain ⟨hd, sc, m, rfl, hh, hm, hB, k⟩ := h
    refine ⟨_, (@pss_cons _ _ _ _ _ (@ps_if _ _ _ _ _ _ _ _ (PW.pt (@pw_and _ _ _ _ _ _ _ (@pt_cmpR _ _ _ _ _ _ _ _ op_eq (@pe_ix _ _ _ _ _ _ _ ix_list (pv 0) (@pe_int _ _ _ _) (fun _ _ => rfl)) (@pe_int _ _ _ _) (nomark _)) (@pw_and1 _ _ _ _ (@pt_cmpR _ _ _ _ _ _ _ _ op_eq (@pe_ix _ _ _ _ _ _ _ ix_list (pv 0) (@pe_int _ _ _ _) (fun _ _ => rfl)) (@pe_int _ _ _ _) (nomark _))))) (@pss_one _ _ _ (@ps_expr _ _ _ _ (@pe_fn _ _ _ _ _ _ _ _ _ _ _ _ _ _ T.l_take (ok_l_take T) hr (by decide) (@pa_cons _ _ _ _ _ (pv 0) (@pa_nil _) star_name) (by rfl) (by decide) (by rfl) (by rfl)) (by rfl))) (@pss_nil _)) (@pss_cons _ _ _ _ _ (@ps_if _ _ _ _ _ _ _ _ (@pt_cmpR _ _ _ _ _ _ _ _ op_gt (@pe_ix _ _ _ _ _ _ _ ix_list (pv 0) (@pe_int _ _ _ _) (fun _ _ => rfl)) (@pe_int _ _ _ _) (nomark _)) (@pss_cons _ _ _ _ _ (@ps_set _ _ 2 _ _ _ _ sc_l_draw.nd rfl (Or.inl rfl) (@pe_op _ _ _ _ _ _ _ _ op_modN (@pe_ix _ _ _ _ _ _ _ ix_list (pv 0) (@pe_int _ _ _ _) (fun _ _ => rfl)) (pv 1)) (by rfl) (by first | exact .inl rfl | exact .inr rfl | assumption)) (@pss_cons _ _ _ _ _ (@ps_asg _ _ _ _ _ _ (@pe_op _ _ _ _ _ _ _ _ op_fdivB (@pe_ix _ _ _ _ _ _ _ ix_list (pv 0) (@pe_int _ _ _ _) (fun _ _ => rfl)) (pv 1)) (@pg_sub _ _ _ _ _ _ _ (pv 0) (@pe_int _ _ _ _) set_list (by intro _; rfl)) (by rfl) (by rfl) (by rfl)) (@pss_one _ _ _ (@ps_ret _ _ _ _ (pv 2))))) (@pss_nil _)) (@pss_cons _ _ _ _ _ (@ps_augS _ _ _ _ _ _ _ _ _ _ _ _ _ (pv 0) (@pe_int _ _ _ _) get_list (@pe_int _ _ _ _) ip_sub set_list (by intros; rfl)) (@pss_cons _ _ _ _ _ (@ps_set _ _ 3 _ _ _ _ sc_l_draw.nd rfl (Or.inl rfl) (@pe_fn _ _ _ _ _ _ _ _ _ _ _ _ _ _ T.l_next (ok_l_next T) hr (by decide) (@pa_cons _ _ _ _ _ (pv 0) (@pa_nil _) star_name) (by rfl) (by decide) (by rfl) (by rfl)) (by rfl) (by first | exact .inl rfl | exact .inr rfl | assumption)) (@pss_cons _ _ _ _ _ (@ps_set _ _ 4 _ _ _ _ sc_l_draw.nd rfl (Or.inl rfl) (@pe_int _ _ _ _) (by rfl) (by first | exact .inl rfl | exact .inr rfl | assumption)) (@pss_cons _ _ _ _ _ (@ps_while _ _ _ _ _ _ PassesOwn.never (@pt_cmpR _ _ _ _ _ _ _ _ op_lt (pv 4) (pv 1) (nomark _)) (@pss_cons _ _ _ _ _ (@ps_set _ _ 3 _ _ _ _ sc_l_draw.nd rfl (Or.inl rfl) (@pe_op _ _ _ _ _ _ _ _ op_add (@pe_op _ _ _ _ _ _ _ _ op_mulB (pv 3) (@pe_int _ _ _ _)) (@pe_fn _ _ _ _ _ _ _ _ _ _ _ _ _ _ T.l_next (ok_l_next T) hr (by decide) (@pa_cons _ _ _ _ _ (pv 0) (@pa_nil _) star_name) (by rfl) (by decide) (by rfl) (by rfl))) (by rfl) (by first | exact .inl rfl | exact .inr rfl | assumption)) (@pss_one _ _ _ (@ps_set _ _ 4 _ _ _ _ sc_l_draw.nd rfl (Or.inl rfl) (@pe_op _ _ _ _ _ _ _ _ op_mulB (pv 4) (@pe_int _ _ _ _)) (by rfl) (by first | exact .inl rfl | exact .inr rfl | assumption))))) (@pss_one _ _ _ (@ps_ret _ _ _ _ (@pe_op _ _ _ _ _ _ _ _ op_modN (pv 3) (pv 1)))))))))), ?_⟩
    refine (show ∀ (H1 : Hp) (rest : TS) (D : Ends) (σ : L2.St) (tc : TT) (te : TE), (∃ b, PuT tc σ H b ∧ (b = true → Gv te σ H (fun _ H' => HandAt H' hd sc ∧ SameB hd H H'))) → (∀ H', HandAt H' hd sc → SameB hd H H' → rest D σ H') → tSeq (tIfS tc (tDrop te) tNext) rest D σ H from fun H1 rest D σ tc te ⟨b, hc, he⟩ q => st_if hc (fun e => st_exprG1 (he e) fun v H' r => q H' r.1 r.2) fun _ => q H hh (SameB.refl _ _)) H _ _ _ _ _ ?_ ?_
    · obtain ⟨ns, i, b, c, p, q, h1, h2, h0⟩ := id hh
      exact ⟨_, pt_and (pt_t (pu_eqI (pu_ixL (pu_v rfl) pu_c (SqL.of h1) rfl) pu_c)) fun _ => pt_t (pu_eqI (pu_ixL (pu_v rfl) pu_c (SqL.of h1) rfl) pu_c), fun _ => gv_call (pa_c (pu_v rfl) pa_n) fun Q f => ⟨hd, sc, rfl, hh, fun H' a s => f _ _ ⟨a, s⟩⟩⟩
    intro H1 hh1 s1
    obtain ⟨ns, i, b, c, p, q, h1, h2, h0⟩ := id hh1
    have nsc := HandAt.ne h1 h2
    refine st_if (pt_t (pu_gt (pu_ixL (pu_v rfl) pu_c (SqL.of h1) rfl) pu_c)) (fun _ => ?_) fun _ => ?_
    · refine st_set (pu_mod (pu_ixL (pu_v rfl) pu_c (SqL.of h1) rfl) (pu_v rfl) (by omega)) ?_
      refine st_put (pu_fdiv (pu_ixL (pu_v rfl) pu_c (SqL.of h1) rfl) (pu_v rfl) ⟨by omega, hB⟩) (pu_v rfl) pu_c h1 rfl ?_
      refine st_ret (pu_v rfl) ?_
      have hl := fmod_lt (x := b) hm
      exact k _ _ hl.1 hl.2 ⟨ns, i, _, c, p, q, upd_same, by rw [upd_ne nsc]; exact h2, h0⟩ (s1.trans SameB.upd)
    · refine st_augI (pu_v rfl) pu_c (by decide) h1 rfl pu_c rfl ?_
      have hh2 : HandAt (upd H1 hd (.lst [.ref sc, .int i, .int b, .int (c - 1), .int p, .int q])) hd sc := ⟨ns, i, b, c - 1, p, q, upd_same, by rw [upd_ne nsc]; exact h2, h0⟩
      refine st_setG (R := fun v H' => (∃ n : Int, v = .int n) ∧ HandAt H' hd sc ∧ SameB hd H H') (gv_call (pa_c (pu_v rfl) pa_n) fun Q f => ⟨hd, sc, rfl, hh2, fun n H' a s => f _ _ ⟨⟨n, rfl⟩, a, s1.trans (SameB.upd.trans s)⟩⟩) ?_
      rintro _ H3 ⟨⟨n, rfl⟩, hh3, s3⟩
      refine st_set pu_c ?_
      refine st_while (fun σ H' => HandAt H' hd sc ∧ SameB hd H H' ∧ ∃ (x y : Int) (r : Option V), σ = [some (.ref hd), some (.int m), r, some (.int x), some (.int y)] ∧ 0 < y) (fun σ _ => match σ with | [_, _, _, _, some (.int y)] => (m - y).toNat | _ => 0)
        ⟨hh3, s3, n, 4294967296, _, rfl, by decide⟩ ?_
      rintro σ H4 ⟨hh4, s4, x, y, r, rfl, hy⟩
      refine ⟨_, pt_t (pu_lt (pu_v rfl) (pu_v rfl)), fun e => ?_, fun e => ?_⟩
      · have e' : y < m := by simpa using e
        refine st_setG (R := fun v H' => (∃ n : Int, v = .int n) ∧ HandAt H' hd sc ∧ SameB hd H H') (fun Q f => pu_mul (pu_v rfl) pu_c (IntMulOk.of_right (by decide)) _ ?_) ?_
        · exact gv_call (sp := sp_l_next) (E := E0) (R := fun v H' => (∃ n : Int, v = .int n) ∧ HandAt H' hd sc ∧ SameB hd H H') (pa_c (pu_v rfl) pa_n) (fun Q f => ⟨hd, sc, rfl, hh4, fun n H' a s => f _ _ ⟨⟨n, rfl⟩, a, s4.trans s⟩⟩) _ fun v H' ⟨⟨n, e⟩, a, s⟩ => by
            subst e
            exact ⟨_, n, rfl, rfl, f _ _ ⟨⟨_, rfl⟩, a, s⟩⟩
        rintro _ H5 ⟨⟨z, rfl⟩, hh5, s5⟩
        refine st_set1 (pu_mul (pu_v rfl) pu_c (IntMulOk.of_right (by decide))) ?_
        exact ⟨⟨hh5, s5, z, y * 4294967296, r, rfl, by omega⟩, by show (m - y * 4294967296).toNat < (m - y).toNat; omega⟩
      · refine st_ret (pu_mod (pu_v rfl) (pu_v rfl) (by omega)) ?_
        have hl := fmod_lt (x := x) hm
        exact k _ _ hl.1 hl.2 hh4 s4
def sp_l_divisor : Sp := fun vs H Q _ => ∃ a b : Int, vs = [.int a, .int b] ∧ Q (.int (Int.gcd a b)) H
theorem sc_l_divisor : FnScope ["_law_one", "_law_other"] ["_law_one", "_law_other"] (defScope s_l_divisor) := ⟨rfl, rfl, rfl, by decide +kernel, rfl, by decide +kernel, by decide +kernel⟩
theorem ok_l_divisor (T : Txt K mg t) : FnOk P w K mg base CX0 1 t.f_l_divisor t.d_l_divisor ["_law_one", "_law_other"] sp_l_divisor := by
  refine T.l_divisor.F.ok (k := 0) sc_l_divisor (fun vs H Q E h => ?_) (fun cdv A outer s H vs Q E hr h => ?_)
  · obtain ⟨a, b, rfl, _⟩ := h
    rfl
  · obtain ⟨a, b, rfl, k⟩ := h
    refine ⟨_, (@pss_cons _ _ _ _ _ (@ps_set _ _ 0 _ _ _ _ sc_l_divisor.nd rfl (Or.inl rfl) (@pe_callB _ _ _ _ _ _ _ _ _ call_abs (by rfl) T.b_abs PyProof.Rows.boot_abs (@pa_cons _ _ _ _ _ (pv 0) (@pa_nil _) star_name) (by decide) (by decide) (by rfl) (by rfl)) (by rfl) (by first | exact .inl rfl | exact .inr rfl | assumption)) (@pss_cons _ _ _ _ _ (@ps_set _ _ 1 _ _ _ _ sc_l_divisor.nd rfl (Or.inl rfl) (@pe_callB _ _ _ _ _ _ _ _ _ call_abs (by rfl) T.b_abs PyProof.Rows.boot_abs (@pa_cons _ _ _ _ _ (pv 1) (@pa_nil _) star_name) (by decide) (by decide) (by rfl) (by rfl)) (by rfl) (by first | exact .inl rfl | exact .inr rfl | assumption)) (@pss_cons _ _ _ _ _ (@ps_while _ _ _ _ _ _ PassesOwn.never (@pt_cmpR _ _ _ _ _ _ _ _ op_gt (pv 1) (@pe_int _ _ _ _) (nomark _)) (@pss_one _ _ _ (@ps_par _ _ 0 1 _ _ _ _ _ _ _ _ _ _ _ rfl sc_l_divisor.nd rfl rfl (by decide) rfl rfl (@pa_cons _ _ _ _ _ (pv 1) (@pa_cons _ _ _ _ _ (@pe_op _ _ _ _ _ _ _ _ op_modN (pv 0) (pv 1)) (@pa_nil _) star_bin) star_name) (by rfl) (by rfl)))) (@pss_one _ _ _ (@ps_ret _ _ _ _ (pv 0)))))), ?_⟩
    refine st_set (pu_abs (pa_c (pu_v rfl) pa_n)) ?_
    refine st_set (pu_abs (pa_c (pu_v rfl) pa_n)) ?_
    refine st_while (fun σ H' => H' = H ∧ ∃ (x y : Int), σ = [some (.int x), some (.int y)] ∧ 0 ≤ x ∧ 0 ≤ y ∧ Int.gcd x y = Int.gcd a b) (fun σ _ => match σ with | [_, some (.int y)] => y.toNat | _ => 0)
      ⟨rfl, a.natAbs, b.natAbs, rfl, by omega, by omega, rfl⟩ ?_
    rintro σ H' ⟨rfl, x, y, rfl, hx, hy, hg⟩
    refine ⟨_, pt_t (pu_gt (pu_v rfl) pu_c), fun e => ?_, fun e => ?_⟩
    · have e' : 0 < y := by simpa using e
      have hm := fmod_lt (x := x) e'
      refine pa_c (pu_v rfl) (pa_c (pu_mod (pu_v rfl) (pu_v rfl) (by omega)) pa_n) _ ?_
      exact ⟨_, _, rfl, ⟨rfl, y, x.fmod y, rfl, hy, hm.1, by rw [gcd_step hx hy]; exact hg⟩, by show (x.fmod y).toNat < y.toNat; omega⟩
    · have e' : ¬ 0 < y := by simpa using e
      have e'' : y = 0 := by omega
      subst e''
      refine st_ret (pu_v rfl) ?_
      rw [← hg, gcd_zero x hx] at k
      exact k
def sp_l_point : Sp := fun vs H Q _ => ∃ a b c : Int, vs = [.int a, .int b, .int c] ∧ 0 < c ∧ Bd 9000 c ∧ ∀ v H' r, Same H H' → AtP H' v r → Is3 a b c r → Q v H'
theorem gv_point {σ : L2.St} {H : Hp} {t : TA} {a b c : Int} (ha : PuA t σ H [.int a, .int b, .int c]) (hc : 0 < c) (hb : Bd 9000 c) : Gv (tCall sp_l_point [] E0 t) σ H (fun v H' => Same H H' ∧ ∃ r, AtP H' v r ∧ Is3 a b c r) :=
  gv_call ha fun Q f => ⟨a, b, c, rfl, hc, hb, fun v H' r s t i => f _ _ ⟨s, r, t, i⟩⟩
theorem sc_l_point : FnScope ["_law_a", "_law_b", "_law_c", "_law_d"] ["_law_a", "_law_b", "_law_c"] (defScope s_l_point) := ⟨rfl, rfl, rfl, by decide +kernel, rfl, by decide +kernel, by decide +kernel⟩
theorem ok_l_point (T : Txt K mg t) : FnOk P w K mg base CX0 2 t.f_l_point t.d_l_point ["_law_a", "_law_b", "_law_c"] sp_l_point := by
  refine T.l_point.F.ok (k := 1) sc_l_point (fun vs H Q E h => ?_) (fun cdv A outer s H vs Q E hr h => ?_)
  · obtain ⟨a, b, c, rfl, _⟩ := h
    rfl
  · obtain ⟨a, b, c, rfl, hc, hB, k⟩ := h
    refine ⟨_, (@pss_cons _ _ _ _ _ (@ps_set _ _ 3 _ _ _ _ sc_l_point.nd rfl (Or.inl rfl) (@pe_fn _ _ _ _ _ _ _ _ _ _ _ _ _ _ T.l_divisor (ok_l_divisor T) hr (by decide) (@pa_cons _ _ _ _ _ (@pe_fn _ _ _ _ _ _ _ _ _ _ _ _ _ _ T.l_divisor (ok_l_divisor T) hr (by decide) (@pa_cons _ _ _ _ _ (pv 2) (@pa_cons _ _ _ _ _ (pv 0) (@pa_nil _) star_name) star_name) (by rfl) (by decide) (by rfl) (by rfl)) (@pa_cons _ _ _ _ _ (pv 1) (@pa_nil _) star_name) star_call) (by rfl) (by decide) (by rfl) (by rfl)) (by rfl) (by first | exact .inl rfl | exact .inr rfl | assumption)) (@pss_one _ _ _ (@ps_ret _ _ _ _ (@pe_tup _ _ _ _ _ (@pa_cons _ _ _ _ _ (@pe_op _ _ _ _ _ _ _ _ op_fdivB (pv 0) (pv 3)) (@pa_cons _ _ _ _ _ (@pe_op _ _ _ _ _ _ _ _ op_fdivB (pv 1) (pv 3)) (@pa_cons _ _ _ _ _ (@pe_op _ _ _ _ _ _ _ _ op_fdivB (pv 2) (pv 3)) (@pa_nil _) star_bin) star_bin) star_bin))))), ?_⟩
    obtain ⟨hi, hd⟩ := pt_has (a := a) (b := b) hc
    have hdB : Bd 9000 (Int.gcd (Int.gcd c a) b : Int) := by
      refine hB.le ?_
      have : (Int.gcd (Int.gcd c a) b : Nat) ≤ c.natAbs := by
        refine Nat.le_of_dvd (by omega) ?_
        refine Nat.dvd_trans (Int.gcd_dvd_natAbs_left _ _) ?_
        rw [Int.natAbs_natCast]
        exact Int.gcd_dvd_natAbs_left c a
      exact this
    refine st_set (pu_call (pa_c (pu_call (pa_c (pu_v rfl) (pa_c (pu_v rfl) pa_n)) (fun Q q => ⟨c, a, rfl, q⟩)) (pa_c (pu_v rfl) pa_n)) (fun Q q => ⟨_, b, rfl, q⟩)) ?_
    refine st_retG (gv_tup (pa_c (pu_fdiv (pu_v rfl) (pu_v rfl) ⟨by omega, hdB⟩) (pa_c (pu_fdiv (pu_v rfl) (pu_v rfl) ⟨by omega, hdB⟩) (pa_c (pu_fdiv (pu_v rfl) (pu_v rfl) ⟨by omega, hdB⟩) pa_n))) (by show 3 ≤ sizeLine; decide)) ?_
    rintro _ _ ⟨p, hp, rfl, rfl⟩
    exact k _ _ _ (Same.upd hp) (TupT.of upd_same) hi
def sp_l_whole : Sp := fun vs H Q _ => ∃ hd v d, vs = [v] ∧ DAt hd H v d ∧ Q (.bl (wholeD d)) H
theorem sc_l_whole : FnScope ["_law_thing"] ["_law_thing"] (defScope s_l_whole) := ⟨rfl, rfl, rfl, by decide +kernel, rfl, by decide +kernel, by decide +kernel⟩
theorem ok_l_whole (T : Txt K mg t) : FnOk P w K mg base CX0 1 t.f_l_whole t.d_l_whole ["_law_thing"] sp_l_whole := by
  refine T.l_whole.F.ok (k := 0) sc_l_whole (fun vs H Q E h => ?_) (fun cdv A outer s H vs Q E hr h => ?_)
  · obtain ⟨hd, v, d, rfl, _⟩ := h
    rfl
  · obtain ⟨hd, v, d, rfl, hv, k⟩ := h
    refine ⟨_, (@pss_one _ _ _ (@ps_ret _ _ _ _ (@pe_and _ _ _ _ _ _ _ (@pe_callB _ _ _ _ _ _ _ _ _ call_isinst (by rfl) T.b_isinstance PyProof.Rows.boot_isinstance (@pa_cons _ _ _ _ _ (pv 0) (@pa_cons _ _ _ _ _ (@pe_ty _ _ _ _ T.b_int PyProof.Rows.boot_int (by rfl) (by decide) (by decide)) (@pa_nil _) star_name) star_name) (by decide) (by decide) (by rfl) (by rfl)) (@pe_one _ _ _ _ _ (@pe_not _ _ _ _ (@pe_callB _ _ _ _ _ _ _ _ _ call_isinst (by rfl) T.b_isinstance PyProof.Rows.boot_isinstance (@pa_cons _ _ _ _ _ (pv 0) (@pa_cons _ _ _ _ _ (@pe_ty _ _ _ _ T.b_bool PyProof.Rows.boot_bool (by rfl) (by decide) (by decide)) (@pa_nil _) star_name) star_name) (by decide) (by decide) (by rfl) (by rfl))))))), ?_⟩
    exact st_ret (pu_and (pu_isi (pa_c (pu_v rfl) (pa_c pu_c pa_n)) hv.ty (kd_int d)) fun _ => pu_not (pu_isi (pa_c (pu_v rfl) (pa_c pu_c pa_n)) hv.ty (kd_bool d))) k
theorem okq_l_whole (T : Txt K mg t) : FnQ P w K mg base 1 t.f_l_whole t.d_l_whole ["_law_thing"] sp_l_whole := by
  refine T.l_whole.F.okQ (k := 0) sc_l_whole (fun vs H Q E h => ?_) (fun cdv A outer s H vs Q hr h => ?_)
  · obtain ⟨hd, v, d, rfl, _⟩ := h
    rfl
  · obtain ⟨hd, v, d, rfl, hv, k⟩ := h
    refine ⟨_, (@pss_one _ _ _ (@ps_ret _ _ _ _ (@pe_and _ _ _ _ _ _ _ (@pe_callB _ _ _ _ _ _ _ _ _ call_isinst (by rfl) T.b_isinstance PyProof.Rows.boot_isinstance (@pa_cons _ _ _ _ _ (pv 0) (@pa_cons _ _ _ _ _ (@pe_ty _ _ _ _ T.b_int PyProof.Rows.boot_int (by rfl) (by decide) (by decide)) (@pa_nil _) star_name) star_name) (by decide) (by decide) (by rfl) (by rfl)) (@pe_one _ _ _ _ _ (@pe_not _ _ _ _ (@pe_callB _ _ _ _ _ _ _ _ _ call_isinst (by rfl) T.b_isinstance PyProof.Rows.boot_isinstance (@pa_cons _ _ _ _ _ (pv 0) (@pa_cons _ _ _ _ _ (@pe_ty _ _ _ _ T.b_bool PyProof.Rows.boot_bool (by rfl) (by decide) (by decide)) (@pa_nil _) star_name) star_name) (by decide) (by decide) (by rfl) (by rfl))))))), ?_⟩
    exact st_ret (pu_and (pu_isi (pa_c (pu_v rfl) (pa_c pu_c pa_n)) hv.ty (kd_int d)) fun _ => pu_not (pu_isi (pa_c (pu_v rfl) (pa_c pu_c pa_n)) hv.ty (kd_bool d))) k
theorem lp_is3 {a b c : Int} {r : Pt3} (h : Is3 a b c r) (ha : a.natAbs ≤ 1000000000000) (hb : b.natAbs ≤ 1000000000000) (hc : c.natAbs ≤ 1000000) : lpI [r.x, r.y, r.z] = true := by
  obtain ⟨l1, l2, l3⟩ := h.le
  have hp := h.pos
  unfold lpI
  rw [okI3, gcd3_rot, h.cop, decide_eq_true (show (1 : Int) ≤ r.z by omega)]
  have e1 : (([r.x, r.y, r.z] : List Int).getD 0 0).natAbs ≤ 1000000000000 := by show r.x.natAbs ≤ _; omega
  have e2 : (([r.x, r.y, r.z] : List Int).getD 1 0).natAbs ≤ 1000000000000 := by show r.y.natAbs ≤ _; omega
  have e3 : ([r.x, r.y, r.z] : List Int).getD 2 0 ≤ 1000000 := by show r.z ≤ _; omega
  rw [decide_eq_true e1, decide_eq_true e2, decide_eq_true e3]
  rfl
def sp_l_far : Sp := fun vs H Q _ => ∃ hd sc, vs = [.ref hd] ∧ HandAt H hd sc ∧ ∀ v ns H', TupT H' v ns → lpI ns = true → HandAt H' hd sc → SameB hd H H' → Q v H'
theorem sc_l_far : FnScope ["_law_hand_here", "_law_way", "_law_a", "_law_b"] ["_law_hand_here"] (defScope s_l_far) := ⟨rfl, rfl, rfl, by decide +kernel, rfl, by decide +kernel, by decide +kernel⟩
theorem ok_l_far (T : Txt K mg t) : FnOk P w K mg base CX0 4 t.f_l_far t.d_l_far ["_law_hand_here"] sp_l_far := by
  refine T.l_far.F.ok (k := 3) sc_l_far (fun vs H Q E h => ?_) (fun cdv A outer s H vs Q E hr h => ?_)
  · obtain ⟨hd, sc, rfl, _⟩ := h
    rfl
  · obtain ⟨hd, sc, rfl, hh, k⟩ := h
    refine ⟨_, (@pss_cons _ _ _ _ _ (@ps_set _ _ 1 _ _ _ _ sc_l_far.nd rfl (Or.inl rfl) (@pe_fn _ _ _ _ _ _ _ _ _ _ _ _ _ _ T.l_draw (ok_l_draw T) hr (by decide) (@pa_cons _ _ _ _ _ (pv 0) (@pa_cons _ _ _ _ _ (@pe_int _ _ _ _) (@pa_nil _) star_con) star_name) (by rfl) (by decide) (by rfl) (by rfl)) (by rfl) (by first | exact .inl rfl | exact .inr rfl | assumption)) (@pss_cons _ _ _ _ _ (@ps_if _ _ _ _ _ _ _ _ (@pt_cmpR _ _ _ _ _ _ _ _ op_lt (pv 1) (@pe_int _ _ _ _) (nomark _)) (@pss_cons _ _ _ _ _ (@ps_set _ _ 2 _ _ _ _ sc_l_far.nd rfl (Or.inl rfl) (@pe_op _ _ _ _ _ _ _ _ op_sub (@pe_fn _ _ _ _ _ _ _ _ _ _ _ _ _ _ T.l_draw (ok_l_draw T) hr (by decide) (@pa_cons _ _ _ _ _ (pv 0) (@pa_cons _ _ _ _ _ (@pe_int _ _ _ _) (@pa_nil _) star_con) star_name) (by rfl) (by decide) (by rfl) (by rfl)) (@pe_int _ _ _ _)) (by rfl) (by first | exact .inl rfl | exact .inr rfl | assumption)) (@pss_one _ _ _ (@ps_ret _ _ _ _ (@pe_fn _ _ _ _ _ _ _ _ _ _ _ _ _ _ T.l_point (ok_l_point T) hr (by decide) (@pa_cons _ _ _ _ _ (pv 2) (@pa_cons _ _ _ _ _ (@pe_op _ _ _ _ _ _ _ _ op_sub (@pe_fn _ _ _ _ _ _ _ _ _ _ _ _ _ _ T.l_draw (ok_l_draw T) hr (by decide) (@pa_cons _ _ _ _ _ (pv 0) (@pa_cons _ _ _ _ _ (@pe_int _ _ _ _) (@pa_nil _) star_con) star_name) (by rfl) (by decide) (by rfl) (by rfl)) (@pe_int _ _ _ _)) (@pa_cons _ _ _ _ _ (@pe_op _ _ _ _ _ _ _ _ op_add (@pe_int _ _ _ _) (@pe_fn _ _ _ _ _ _ _ _ _ _ _ _ _ _ T.l_draw (ok_l_draw T) hr (by decide) (@pa_cons _ _ _ _ _ (pv 0) (@pa_cons _ _ _ _ _ (@pe_int _ _ _ _) (@pa_nil _) star_con) star_name) (by rfl) (by decide) (by rfl) (by rfl))) (@pa_nil _) star_bin) star_bin) star_name) (by rfl) (by decide) (by rfl) (by rfl))))) (@pss_nil _)) (@pss_cons _ _ _ _ _ (@ps_set _ _ 2 _ _ _ _ sc_l_far.nd rfl (Or.inl rfl) (@pe_op _ _ _ _ _ _ _ _ op_sub (@pe_fn _ _ _ _ _ _ _ _ _ _ _ _ _ _ T.l_draw (ok_l_draw T) hr (by decide) (@pa_cons _ _ _ _ _ (pv 0) (@pa_cons _ _ _ _ _ (@pe_op _ _ _ _ _ _ _ _ op_add (@pe_op _ _ _ _ _ _ _ _ op_mulB (@pe_int _ _ _ _) (@pe_op _ _ _ _ _ _ _ _ op_pow (@pe_int _ _ _ _) (@pe_int _ _ _ _))) (@pe_int _ _ _ _)) (@pa_nil _) star_bin) star_name) (by rfl) (by decide) (by rfl) (by rfl)) (@pe_op _ _ _ _ _ _ _ _ op_pow (@pe_int _ _ _ _) (@pe_int _ _ _ _))) (by rfl) (by first | exact .inl rfl | exact .inr rfl | assumption)) (@pss_cons _ _ _ _ _ (@ps_set _ _ 3 _ _ _ _ sc_l_far.nd rfl (Or.inl rfl) (@pe_op _ _ _ _ _ _ _ _ op_sub (@pe_fn _ _ _ _ _ _ _ _ _ _ _ _ _ _ T.l_draw (ok_l_draw T) hr (by decide) (@pa_cons _ _ _ _ _ (pv 0) (@pa_cons _ _ _ _ _ (@pe_op _ _ _ _ _ _ _ _ op_add (@pe_op _ _ _ _ _ _ _ _ op_mulB (@pe_int _ _ _ _) (@pe_op _ _ _ _ _ _ _ _ op_pow (@pe_int _ _ _ _) (@pe_int _ _ _ _))) (@pe_int _ _ _ _)) (@pa_nil _) star_bin) star_name) (by rfl) (by decide) (by rfl) (by rfl)) (@pe_op _ _ _ _ _ _ _ _ op_pow (@pe_int _ _ _ _) (@pe_int _ _ _ _))) (by rfl) (by first | exact .inl rfl | exact .inr rfl | assumption)) (@pss_cons _ _ _ _ _ (@ps_if _ _ _ _ _ _ _ _ (@pt_cmpR _ _ _ _ _ _ _ _ op_eq (pv 1) (@pe_int _ _ _ _) (nomark _)) (@pss_one _ _ _ (@ps_ret _ _ _ _ (@pe_fn _ _ _ _ _ _ _ _ _ _ _ _ _ _ T.l_point (ok_l_point T) hr (by decide) (@pa_cons _ _ _ _ _ (pv 2) (@pa_cons _ _ _ _ _ (pv 3) (@pa_cons _ _ _ _ _ (@pe_op _ _ _ _ _ _ _ _ op_add (@pe_int _ _ _ _) (@pe_fn _ _ _ _ _ _ _ _ _ _ _ _ _ _ T.l_draw (ok_l_draw T) hr (by decide) (@pa_cons _ _ _ _ _ (pv 0) (@pa_cons _ _ _ _ _ (@pe_op _ _ _ _ _ _ _ _ op_pow (@pe_int _ _ _ _) (@pe_int _ _ _ _)) (@pa_nil _) star_bin) star_name) (by rfl) (by decide) (by rfl) (by rfl))) (@pa_nil _) star_bin) star_name) star_name) (by rfl) (by decide) (by rfl) (by rfl)))) (@pss_nil _)) (@pss_cons _ _ _ _ _ (@ps_if _ _ _ _ _ _ _ _ (@pt_cmpR _ _ _ _ _ _ _ _ op_eq (pv 1) (@pe_int _ _ _ _) (nomark _)) (@pss_one _ _ _ (@ps_ret _ _ _ _ (@pe_fn _ _ _ _ _ _ _ _ _ _ _ _ _ _ T.l_point (ok_l_point T) hr (by decide) (@pa_cons _ _ _ _ _ (@pe_ix _ _ _ _ _ _ _ ix_list (@pe_lst _ _ _ _ (@pa_cons _ _ _ _ _ (@pe_op _ _ _ _ _ _ _ _ op_pow (@pe_int _ _ _ _) (@pe_int _ _ _ _)) (@pa_cons _ _ _ _ _ (@pe_un _ _ _ _ _ _ un_neg (@pe_op _ _ _ _ _ _ _ _ op_pow (@pe_int _ _ _ _) (@pe_int _ _ _ _))) (@pa_nil _) star_un) star_bin)) (@pe_fn _ _ _ _ _ _ _ _ _ _ _ _ _ _ T.l_draw (ok_l_draw T) hr (by decide) (@pa_cons _ _ _ _ _ (pv 0) (@pa_cons _ _ _ _ _ (@pe_int _ _ _ _) (@pa_nil _) star_con) star_name) (by rfl) (by decide) (by rfl) (by rfl)) (fun _ _ => rfl)) (@pa_cons _ _ _ _ _ (pv 3) (@pa_cons _ _ _ _ _ (@pe_int _ _ _ _) (@pa_nil _) star_con) star_name) star_sub) (by rfl) (by decide) (by rfl) (by rfl)))) (@pss_nil _)) (@pss_one _ _ _ (@ps_ret _ _ _ _ (@pe_fn _ _ _ _ _ _ _ _ _ _ _ _ _ _ T.l_point (ok_l_point T) hr (by decide) (@pa_cons _ _ _ _ _ (pv 2) (@pa_cons _ _ _ _ _ (@pe_ix _ _ _ _ _ _ _ ix_list (@pe_lst _ _ _ _ (@pa_cons _ _ _ _ _ (@pe_op _ _ _ _ _ _ _ _ op_pow (@pe_int _ _ _ _) (@pe_int _ _ _ _)) (@pa_cons _ _ _ _ _ (@pe_un _ _ _ _ _ _ un_neg (@pe_op _ _ _ _ _ _ _ _ op_pow (@pe_int _ _ _ _) (@pe_int _ _ _ _))) (@pa_nil _) star_un) star_bin)) (@pe_fn _ _ _ _ _ _ _ _ _ _ _ _ _ _ T.l_draw (ok_l_draw T) hr (by decide) (@pa_cons _ _ _ _ _ (pv 0) (@pa_cons _ _ _ _ _ (@pe_int _ _ _ _) (@pa_nil _) star_con) star_name) (by rfl) (by decide) (by rfl) (by rfl)) (fun _ _ => rfl)) (@pa_cons _ _ _ _ _ (@pe_op _ _ _ _ _ _ _ _ op_pow (@pe_int _ _ _ _) (@pe_int _ _ _ _)) (@pa_nil _) star_bin) star_sub) star_name) (by rfl) (by decide) (by rfl) (by rfl)))))))))), ?_⟩
    have P12 : ∀ {σ : L2.St} {H' : Hp}, Pu (tOp (rI CPow fun i j => .int (i ^ j.toNat)) (tC (.int 10)) (tC (.int 12))) σ H' (.int (10 ^ 12)) := pu_pow pu_c pu_c ⟨by decide, by decide, by decide⟩
    have P6 : ∀ {σ : L2.St} {H' : Hp}, Pu (tOp (rI CPow fun i j => .int (i ^ j.toNat)) (tC (.int 10)) (tC (.int 6))) σ H' (.int (10 ^ 6)) := pu_pow pu_c pu_c ⟨by decide, by decide, by decide⟩
    have B12 : Bd 9000 (2 * 10 ^ 12 + 1 : Int) := by unfold Bd; decide +kernel
    have n12 : (10 : Int) ^ 12 = 1000000000000 := by decide
    have n6 : (10 : Int) ^ 6 = 1000000 := by decide
    have PR : ∀ {σ : L2.St} {H' : Hp} {En : Ends} {ta : TA}, GvA ta σ H' (fun vs H2 => ∃ a b c : Int, vs = [.int a, .int b, .int c] ∧ 0 < c ∧ a.natAbs ≤ 1000000000000 ∧ b.natAbs ≤ 1000000000000 ∧ c.natAbs ≤ 1000000 ∧ HandAt H2 hd sc ∧ SameB hd H H2) → En.rt = Q → tRet (tCall sp_l_point [] E0 ta) En σ H' := fun {σ H' En ta} h er => by
      refine st_retG (R := fun v H2 => ∃ r : Pt3, AtP H2 v r ∧ lpI [r.x, r.y, r.z] = true ∧ HandAt H2 hd sc ∧ SameB hd H H2) (gv_callA h fun vs H3 z Q q => ?_) ?_
      · obtain ⟨a, b, c, rfl, c0, ha, hb, hc, hh3, s3⟩ := z
        exact ⟨a, b, c, rfl, c0, Bd.small (by omega), fun v H' r s t i => q _ _ ⟨r, t, lp_is3 i ha hb hc, hh3.same s, s3.trans s.b⟩⟩
      · rintro v H2 ⟨r, t, l, hh2, s2⟩
        rw [er]
        exact k v _ H2 t l hh2 s2
    refine st_setG (gv_draw hh (pa_c (pu_v rfl) (pa_c pu_c pa_n)) (by decide) Bd.small) ?_
    rintro _ H1 ⟨⟨w, rfl, w0, w1⟩, hh1, s1⟩
    refine st_ifN (pt_t (pu_lt (pu_v rfl) pu_c)) (fun _ => ?_) fun _ => ?_
    · refine st_setG (R := fun v H2 => ∃ a : Int, v = .int a ∧ a.natAbs ≤ 4 ∧ HandAt H2 hd sc ∧ SameB hd H H2) (fun Q q => ?_) ?_
      · dsimp only [tOp]
        refine gv_draw hh1 (pa_c (pu_v rfl) (pa_c pu_c pa_n)) (by decide) Bd.small _ ?_
        rintro _ H2 ⟨⟨n, rfl, z0, z1⟩, hh2, s2⟩
        exact pu_c (v := .int 4) _ ⟨n, 4, rfl, rfl, q _ _ ⟨n - 4, rfl, by omega, hh2, s1.trans s2⟩⟩
      rintro _ H2 ⟨a, rfl, ha, hh2, s2⟩
      refine PR (fun Q q => ?_) rfl
      dsimp only [tCons, tOp, tC, tNil]
      refine pu_v rfl _ ?_
      refine gv_draw hh2 (pa_c (pu_v rfl) (pa_c pu_c pa_n)) (by decide) Bd.small _ ?_
      rintro _ H3 ⟨⟨n, rfl, z0, z1⟩, hh3, s3⟩
      refine ⟨n, 4, rfl, rfl, ?_⟩
      refine gv_draw hh3 (pa_c (pu_v rfl) (pa_c pu_c pa_n)) (by decide) Bd.small _ ?_
      rintro _ H4 ⟨⟨m, rfl, y0, y1⟩, hh4, s4⟩
      exact ⟨1, m, rfl, rfl, q _ _ ⟨a, n - 4, 1 + m, rfl, by omega, by omega, by omega, by omega, hh4, s2.trans (s3.trans s4)⟩⟩
    have G12 : ∀ {σ : L2.St} {H1 : Hp}, HandAt H1 hd sc → SameB hd H H1 → σ[0]? = some (some (.ref hd)) → Gv (tOp (rI0 fun i j => .int (i - j)) (tCall sp_l_draw [] E0 (tCons (tVar 0) (tCons (tOp (rI0 fun i j => .int (i + j)) (tOp (rI IntMulOk fun i j => .int (i * j)) (tC (.int 2)) (tOp (rI CPow fun i j => .int (i ^ j.toNat)) (tC (.int 10)) (tC (.int 12)))) (tC (.int 1))) tNil))) (tOp (rI CPow fun i j => .int (i ^ j.toNat)) (tC (.int 10)) (tC (.int 12)))) σ H1 (fun v H2 => ∃ a : Int, v = .int a ∧ a.natAbs ≤ 1000000000000 ∧ HandAt H2 hd sc ∧ SameB hd H H2) := fun {σ H1} hh1 s1 h0 Q q => by
      refine gv_draw (m := 2 * 10 ^ 12 + 1) hh1 (pa_c (pu_v h0) (pa_c (pu_add (pu_mul pu_c P12 (IntMulOk.of_left (by decide))) pu_c) pa_n)) (by decide) B12 _ ?_
      rintro _ H2 ⟨⟨n, rfl, z0, z1⟩, hh2, s2⟩
      exact P12 _ ⟨n, _, rfl, rfl, q _ _ ⟨n - 10 ^ 12, rfl, by omega, hh2, s1.trans s2⟩⟩
    refine st_setG (G12 hh1 s1 rfl) ?_
    rintro _ H2 ⟨a, rfl, ha, hh2, s2⟩
    refine st_setG (G12 hh2 s2 rfl) ?_
    rintro _ H3 ⟨b, rfl, hb, hh3, s3⟩
    have GP : ∀ {σ : L2.St}, σ[0]? = some (some (.ref hd)) → Gv (tOp (rIxL K) (tLst (tCons (tOp (rI CPow fun i j => .int (i ^ j.toNat)) (tC (.int 10)) (tC (.int 12))) (tCons (tUn (rU fun i => .int (-i)) (tOp (rI CPow fun i j => .int (i ^ j.toNat)) (tC (.int 10)) (tC (.int 12)))) tNil))) (tCall sp_l_draw [] E0 (tCons (tVar 0) (tCons (tC (.int 2)) tNil)))) σ H3 (fun v H2 => ∃ a : Int, v = .int a ∧ a.natAbs ≤ 1000000000000 ∧ HandAt H2 hd sc ∧ SameB hd H H2) := fun {σ} h0 Q q => by
      dsimp only [tOp]
      refine gv_lst (pa_c P12 (pa_c (pu_neg P12) pa_n)) (by show 2 ≤ sizeLine; decide) _ ?_
      rintro _ _ ⟨p, hp, rfl, rfl⟩
      have sp := Same.upd (o := .lst [.int (10 ^ 12), .int (-10 ^ 12)]) hp
      obtain ⟨ys, hys⟩ := hh3.ls
      refine gv_draw (hh3.same sp) (pa_c (pu_v h0) (pa_c pu_c pa_n)) (by decide) Bd.small _ ?_
      rintro _ H4 ⟨⟨n, rfl, z0, z1⟩, hh4, s4⟩
      have hp4 := s4 _ _ upd_same (Ne.symm (ne_of_none hys hp))
      have hn : n = 0 ∨ n = 1 := by omega
      rcases hn with rfl | rfl
      · exact ⟨p, _, 0, .int (10 ^ 12), rfl, rfl, SqL.of hp4, rfl, q _ _ ⟨10 ^ 12, rfl, by decide, hh4, s3.trans (sp.b.trans s4)⟩⟩
      · exact ⟨p, _, 1, .int (-10 ^ 12), rfl, rfl, SqL.of hp4, rfl, q _ _ ⟨-10 ^ 12, rfl, by decide, hh4, s3.trans (sp.b.trans s4)⟩⟩
    refine st_ifN (pt_t (pu_eqI (pu_v rfl) pu_c)) (fun _ => ?_) fun _ => ?_
    · refine PR (fun Q q => ?_) rfl
      refine pu_v rfl _ (pu_v rfl _ ?_)
      dsimp only [tCons, tOp, tC, tNil]
      refine gv_draw (m := 10 ^ 6) hh3 (pa_c (pu_v rfl) (pa_c P6 pa_n)) (by decide) (by unfold Bd; decide +kernel) _ ?_
      rintro _ H4 ⟨⟨m, rfl, y0, y1⟩, hh4, s4⟩
      exact ⟨1, m, rfl, rfl, q _ _ ⟨a, b, 1 + m, rfl, by omega, ha, hb, by omega, hh4, s3.trans s4⟩⟩
    refine st_ifN (pt_t (pu_eqI (pu_v rfl) pu_c)) (fun _ => ?_) fun _ => ?_
    · refine PR (fun Q q => ?_) rfl
      refine GP rfl _ ?_
      rintro _ H4 ⟨x, rfl, hx, hh4, s4⟩
      exact pu_v rfl _ (q _ _ ⟨x, b, 1, rfl, by decide, hx, hb, by decide, hh4, s4⟩)
    · refine PR (fun Q q => ?_) rfl
      refine pu_v rfl _ (GP rfl _ ?_)
      rintro _ H4 ⟨x, rfl, hx, hh4, s4⟩
      exact P6 _ (q _ _ ⟨a, x, 10 ^ 6, rfl, by decide, ha, hx, by decide, hh4, s4⟩)
theorem lpI_parts {x y z : Int} (h : lpI [x, y, z] = true) : x.natAbs ≤ 1000000000000 ∧ y.natAbs ≤ 1000000000000 ∧ 1 ≤ z ∧ z ≤ 1000000 := by
  unfold lpI at h
  rw [okI3] at h
  simp at h
  omega
theorem lpI_len {ns : List Int} (h : lpI ns = true) : ∃ x y z, ns = [x, y, z] := by
  unfold lpI okI at h
  simp only [Bool.and_eq_true, decide_eq_true_iff] at h
  have hl := h.1.1.1.1.1
  match ns, hl with
  | [x, y, z], _ => exact ⟨x, y, z, rfl⟩
theorem cand_ne {a b y z : Int} {r s : Pt3} (hr : Is3 a y z r) (hs : Is3 b y z s) (h : a ≠ b) : [r.x, r.y, r.z] ≠ [s.x, s.y, s.z] := by
  intro e
  simp only [List.cons.injEq, and_true] at e
  obtain ⟨e1, e2, e3⟩ := e
  obtain ⟨d, hd, a1, a2, a3⟩ := hr.ex
  obtain ⟨d', hd', b1, b2, b3⟩ := hs.ex
  have hz := hr.pos
  have : d = d' := by
    rw [← e3] at b3
    rw [b3] at a3
    exact (Int.eq_of_mul_eq_mul_right (Int.ne_of_gt hz) a3).symm
  subst this
  exact h (by rw [a1, b1, e1])
def sp_l_unlike : Sp := fun vs H Q _ => ∃ v l ns ys nss, vs = [v, .ref l] ∧ TupT H v ns ∧ lpI ns = true ∧ H l = some (.lst ys) ∧ TupsT H ys nss ∧ nss.length ≤ 2 ∧ ∀ r ms H', Same H H' → TupT H' r ms → lpI ms = true → ms ∉ nss → Q r H'
theorem sc_l_unlike : FnScope ["_law_p", "_law_others", "_law_step", "_law_k", "_law_found"] ["_law_p", "_law_others"] (defScope s_l_unlike) := ⟨rfl, rfl, rfl, by decide +kernel, rfl, by decide +kernel, by decide +kernel⟩
theorem ok_l_unlike (T : Txt K mg t) : FnOk P w K mg base CX0 3 t.f_l_unlike t.d_l_unlike ["_law_p", "_law_others"] sp_l_unlike := by
  refine T.l_unlike.F.ok (k := 2) sc_l_unlike (fun vs H Q E h => ?_) (fun cdv A outer s H vs Q E hr h => ?_)
  · obtain ⟨v, l, ns, ys, nss, rfl, _⟩ := h
    rfl
  · obtain ⟨v, l, ns, ys, nss, rfl, hv, lp, hl, ht, h2, k⟩ := h
    refine ⟨_, (@pss_cons _ _ _ _ _ (@ps_set _ _ 2 _ _ _ _ sc_l_unlike.nd rfl (Or.inl rfl) (@pe_ix _ _ _ _ _ _ _ ix_tup (pv 0) (@pe_int _ _ _ _) (fun _ _ => rfl)) (by rfl) (by first | exact .inl rfl | exact .inr rfl | assumption)) (@pss_cons _ _ _ _ _ (@ps_if _ _ _ _ _ _ _ _ (@pt_cmpR _ _ _ _ _ _ _ _ op_gt (@pe_ix _ _ _ _ _ _ _ ix_tup (pv 0) (@pe_int _ _ _ _) (fun _ _ => rfl)) (@pe_int _ _ _ _) (nomark _)) (@pss_one _ _ _ (@ps_set _ _ 2 _ _ _ _ sc_l_unlike.nd rfl (Or.inl rfl) (@pe_un _ _ _ _ _ _ un_neg (pv 2)) (by rfl) (by first | exact .inl rfl | exact .inr rfl | assumption))) (@pss_nil _)) (@pss_cons _ _ _ _ _ (@ps_for _ _ _ _ _ _ _ _ PassesOwn.never rfl (@pi_range1 _ _ _ _ _ _ rfl T.b_range (@pa_cons _ _ _ _ _ (@pe_int _ _ _ _) (@pa_nil _) star_con) (by rfl)) (@pg_name _ _ 3 _ sc_l_unlike.nd rfl (Or.inl rfl) (by first | exact .inl rfl | exact .inr rfl | assumption)) (@pss_cons _ _ _ _ _ (@ps_set _ _ 4 _ _ _ _ sc_l_unlike.nd rfl (Or.inl rfl) (@pe_fn _ _ _ _ _ _ _ _ _ _ _ _ _ _ T.l_point (ok_l_point T) hr (by decide) (@pa_cons _ _ _ _ _ (@pe_op _ _ _ _ _ _ _ _ op_add (@pe_ix _ _ _ _ _ _ _ ix_tup (pv 0) (@pe_int _ _ _ _) (fun _ _ => rfl)) (@pe_op _ _ _ _ _ _ _ _ op_mulB (pv 3) (pv 2))) (@pa_cons _ _ _ _ _ (@pe_ix _ _ _ _ _ _ _ ix_tup (pv 0) (@pe_int _ _ _ _) (fun _ _ => rfl)) (@pa_cons _ _ _ _ _ (@pe_ix _ _ _ _ _ _ _ ix_tup (pv 0) (@pe_int _ _ _ _) (fun _ _ => rfl)) (@pa_nil _) star_sub) star_sub) star_bin) (by rfl) (by decide) (by rfl) (by rfl)) (by rfl) (by first | exact .inl rfl | exact .inr rfl | assumption)) (@pss_one _ _ _ (@ps_if _ _ _ _ _ _ _ _ (@pt_cmpR _ _ _ _ _ _ _ _ (op_notInT hr.units65) (pv 4) (pv 1) rfl) (@pss_one _ _ _ (@ps_ret _ _ _ _ (pv 4))) (@pss_nil _)))) (by intro _; rfl)) (@pss_one _ _ _ (@ps_ret _ _ _ _ (pv 0)))))), ?_⟩
    obtain ⟨x, y, z, rfl⟩ := lpI_len lp
    obtain ⟨b1, b2, b3, b4⟩ := lpI_parts lp
    obtain ⟨a, rfl, ha⟩ := hv
    refine st_set (pu_ixT (pu_v rfl) pu_c (SqT.of (ha)) rfl) ?_
    refine st_ifSet (R := fun v H' => H' = H ∧ v = .int (if x > 0 then -z else z)) (v0 := .int z) (pt_t (pu_gt (pu_ixT (pu_v rfl) pu_c (SqT.of (ha)) rfl) pu_c)) (fun e => (pu_neg (pu_v rfl)).gv' ⟨rfl, ?_⟩) rfl (fun e => ⟨rfl, ?_⟩) ?_
    · rw [if_pos (by simpa using e)]
    · rw [if_neg (by simpa using e)]
    rintro _ H0 ⟨rfl, rfl⟩
    generalize hst : (if x > 0 then -z else z) = st
    have bnd : ∀ i : Nat, i < 3 → (x + (i : Int) * st).natAbs ≤ 1000000000000 := fun i hi => by
      have hc : i = 0 ∨ i = 1 ∨ i = 2 := by omega
      rcases hc with rfl | rfl | rfl <;> (subst hst; split <;> simp <;> omega)
    have st0 : st ≠ 0 := by subst hst; split <;> omega
    refine st_rangeG (ga_pu (pa_c pu_c pa_n)) ?_
    rintro _ H0 ⟨rfl, e⟩
    have e := e.symm
    subst e
    refine ⟨3, rfl, by decide, by decide, fun i σ H1 => Same H0 H1 ∧ (∃ c d : Option V, σ = [some (.ref a), some (.ref l), some (.int st), c, d]) ∧ ∀ m < i, ∃ r : Pt3, Is3 (x + (m : Int) * st) y z r ∧ [r.x, r.y, r.z] ∈ nss, ⟨Same.rfl', ⟨_, _, rfl⟩, fun j h => absurd h (Nat.not_lt_zero _)⟩, ?_, ?_⟩
    · rintro i σ H1 hi ⟨s1, ⟨c, d, rfl⟩, hj⟩
      have hi3 : i < 3 := hi
      have ha1 := s1 _ _ ha
      refine st_setG (R := fun v H2 => Same H1 H2 ∧ ∃ r, AtP H2 v r ∧ Is3 (x + (i : Int) * st) y z r) (gv_point (pa_c (pu_cast (pu_add (pu_ixT (pu_v rfl) pu_c (SqT.of (ha1)) rfl) (pu_mul (pu_v rfl) (pu_v rfl) (IntMulOk.of_left (intBits_le_64 (by omega) (by omega))))) (by rw [Int.zero_add])) (pa_c (pu_ixT (pu_v rfl) pu_c (SqT.of (ha1)) rfl) (pa_c (pu_ixT (pu_v rfl) pu_c (SqT.of (ha1)) rfl) pa_n))) (by omega) (Bd.small (by omega))) ?_
      rintro v H2 ⟨s2, r, hr2, hi2⟩
      have s02 := s1.trans s2
      refine st_ifN1 (pt_t (pu_notInT (pu_v rfl) (pu_v rfl) (s02 _ _ hl) (ht.mono fun _ _ t => t.same s02) hr2)) (fun e => ?_) fun e => ?_
      · refine st_ret (pu_v rfl) (k _ _ _ s02 hr2 (lp_is3 hi2 (bnd i hi3) b2 (by omega)) (by simpa using e))
      · refine ⟨s02, ⟨_, _, rfl⟩, fun m hm => ?_⟩
        by_cases zz : m < i
        · exact hj m zz
        · have : m = i := by omega
          subst this
          exact ⟨r, hi2, by simpa using e⟩
    · rintro σ H1 ⟨s1, ⟨c, d, rfl⟩, hj⟩
      obtain ⟨r0, i0, m0⟩ := hj 0 (by decide)
      obtain ⟨r1, i1, m1⟩ := hj 1 (by decide)
      obtain ⟨r2, i2, m2⟩ := hj 2 (by decide)
      have := three_mem m0 m1 m2 (cand_ne i0 i1 (by simp; omega)) (cand_ne i1 i2 (by simp; omega)) (cand_ne i0 i2 (by simp; omega))
      omega
/-- a ring of a layer, so far -/
structure GoodR (nss : List (List Int)) : Prop where
  lp : ∀ ns ∈ nss, lpI ns = true
  ne : ∀ (j : Nat) ns ms, nss[j]? = some ns → nss[j + 1]? = some ms → ns ≠ ms
theorem cut_last {xs : List V} {n : Nat} (h : xs.length = n) : cutV xs (some ((n : Int) - 1)) (some (n : Int)) = xs.drop (n - 1) := by
  unfold cutV
  rw [h, HT.sIx_nat, Nat.min_self]
  have e : HT.sIx n 0 (some ((n : Int) - 1)) = n - 1 := by
    show (if (n : Int) - 1 < 0 then ((n : Int) - 1 + (n : Int)).toNat else min ((n : Int) - 1).toNat n) = n - 1
    split <;> omega
  rw [e, List.take_of_length_le (by rw [List.length_drop]; omega)]
theorem cut_first {xs : List V} : cutV xs none (some 1) = xs.take 1 := by
  unfold cutV
  rw [HT.sIx_none, List.drop_zero, Nat.sub_zero]
  have e : HT.sIx xs.length xs.length (some 1) = min 1 xs.length := HT.sIx_nat xs.length xs.length 1
  rw [e]
  cases xs with
  | nil => rfl
  | cons x r => simp
theorem st_ifSetG {σ : L2.St} {H : Hp} {D : Ends} {rest : TS} {tc : TT} {te : TE} {k : Nat} {v0 : V} {RB : Bool → Hp → Prop} {R : V → Hp → Prop} (hc : GvT tc σ H RB) (he : ∀ H', RB true H' → Gv te σ H' R) (h0 : σ.set k (some v0) = σ) (r0 : ∀ H', RB false H' → R v0 H') (q : ∀ v H', R v H' → rest D (σ.set k (some v)) H') : tSeq (tIfS tc (tAsg te (gName k)) tNext) rest D σ H :=
  st_ifNG hc (fun H' r => (he H' r) _ fun v H1 hr => q v H1 hr) fun H' r => by
    have := q v0 H' (r0 H' r)
    rwa [h0] at this
theorem tup_but {H H' : Hp} {hd sc : Addr} {v : V} {ns : List Int} (hh : HandAt H hd sc) (h : TupT H v ns) (s : SameB hd H H') : TupT H' v ns := by
  obtain ⟨a, rfl, ha⟩ := h
  obtain ⟨ys, hy⟩ := hh.ls
  exact ⟨a, rfl, s _ _ ha fun e => by rw [e, hy] at ha; cases ha⟩
def sp_l_ring : Sp := fun vs H Q _ => ∃ (hd sc : Addr) (m : Nat), vs = [.ref hd, .int m] ∧ 3 ≤ m ∧ m ≤ 12 ∧ HandAt H hd sc ∧ ∀ p ys nss H', H p = none → H' p = some (.lst ys) → TupsT H' ys nss → nss.length = m → GoodR nss → nss.head? ≠ nss.getLast? → HandAt H' hd sc → SameB hd H H' → Q (.ref p) H'
theorem sc_l_ring : FnScope ["_law_hand_here", "_law_many", "_law_ring_here", "_law_k", "_law_p", "_law_others"] ["_law_hand_here", "_law_many"] (defScope s_l_ring) := ⟨rfl, rfl, rfl, by decide +kernel, rfl, by decide +kernel, by decide +kernel⟩
theorem ok_l_ring (T : Txt K mg t) : FnOk P w K mg base CX0 5 t.f_l_ring t.d_l_ring ["_law_hand_here", "_law_many"] sp_l_ring := by
  refine T.l_ring.F.ok (k := 4) sc_l_ring (fun vs H Q E h => ?_) (fun cdv A outer s H vs Q E hr h => ?_)
  · obtain ⟨hd, sc, m, rfl, _⟩ := h
    rfl
  · obtain ⟨hd, sc, m, rfl, m3, m12, hh, k⟩ := h
    refine ⟨_, (@pss_cons _ _ _ _ _ (@ps_set _ _ 2 _ _ _ _ sc_l_ring.nd rfl (Or.inl rfl) (@pe_lst _ _ _ _ (@pa_nil _)) (by rfl) (by first | exact .inl rfl | exact .inr rfl | assumption)) (@pss_cons _ _ _ _ _ (@ps_for _ _ _ _ _ _ _ _ PassesOwn.never rfl (@pi_range1 _ _ _ _ _ _ rfl T.b_range (@pa_cons _ _ _ _ _ (pv 1) (@pa_nil _) star_name) (by rfl)) (@pg_name _ _ 3 _ sc_l_ring.nd rfl (Or.inl rfl) (by first | exact .inl rfl | exact .inr rfl | assumption)) (@pss_cons _ _ _ _ _ (@ps_set _ _ 4 _ _ _ _ sc_l_ring.nd rfl (Or.inl rfl) (@pe_fn _ _ _ _ _ _ _ _ _ _ _ _ _ _ T.l_far (ok_l_far T) hr (by decide) (@pa_cons _ _ _ _ _ (pv 0) (@pa_nil _) star_name) (by rfl) (by decide) (by rfl) (by rfl)) (by rfl) (by first | exact .inl rfl | exact .inr rfl | assumption)) (@pss_cons _ _ _ _ _ (@ps_if _ _ _ _ _ _ _ _ (PW.pt (@pw_and _ _ _ _ _ _ _ (@pt_cmpR _ _ _ _ _ _ _ _ op_gt (pv 3) (@pe_int _ _ _ _) (nomark _)) (@pw_and1 _ _ _ _ (@pt_cmpR _ _ _ _ _ _ _ _ op_eq (@pe_fn _ _ _ _ _ _ _ _ _ _ _ _ _ _ T.l_draw (ok_l_draw T) hr (by decide) (@pa_cons _ _ _ _ _ (pv 0) (@pa_cons _ _ _ _ _ (@pe_int _ _ _ _) (@pa_nil _) star_con) star_name) (by rfl) (by decide) (by rfl) (by rfl)) (@pe_int _ _ _ _) (nomark _))))) (@pss_one _ _ _ (@ps_set _ _ 4 _ _ _ _ sc_l_ring.nd rfl (Or.inl rfl) (@pe_ix _ _ _ _ _ _ _ ix_list (pv 2) (@pe_fn _ _ _ _ _ _ _ _ _ _ _ _ _ _ T.l_draw (ok_l_draw T) hr (by decide) (@pa_cons _ _ _ _ _ (pv 0) (@pa_cons _ _ _ _ _ (pv 3) (@pa_nil _) star_name) star_name) (by rfl) (by decide) (by rfl) (by rfl)) (fun _ _ => rfl)) (by rfl) (by first | exact .inl rfl | exact .inr rfl | assumption))) (@pss_nil _)) (@pss_cons _ _ _ _ _ (@ps_set _ _ 5 _ _ _ _ sc_l_ring.nd rfl (Or.inl rfl) (@pe_slice _ _ _ _ _ _ _ _ _ _ sl_list (pv 2) (@po_some _ _ _ (@pe_op _ _ _ _ _ _ _ _ op_sub (pv 3) (@pe_int _ _ _ _))) (@po_some _ _ _ (pv 3))) (by rfl) (by first | exact .inl rfl | exact .inr rfl | assumption)) (@pss_cons _ _ _ _ _ (@ps_if _ _ _ _ _ _ _ _ (@pt_cmpR _ _ _ _ _ _ _ _ op_eq (pv 3) (@pe_op _ _ _ _ _ _ _ _ op_sub (pv 1) (@pe_int _ _ _ _)) (nomark _)) (@pss_one _ _ _ (@ps_set _ _ 5 _ _ _ _ sc_l_ring.nd rfl (Or.inl rfl) (@pe_op _ _ _ _ _ _ _ _ op_cat (pv 5) (@pe_slice _ _ _ _ _ _ _ _ _ _ sl_list (pv 2) (@po_none _) (@po_some _ _ _ (@pe_int _ _ _ _)))) (by rfl) (by first | exact .inl rfl | exact .inr rfl | assumption))) (@pss_nil _)) (@pss_one _ _ _ (@ps_expr _ _ _ _ (@pe_bm _ _ _ _ _ _ _ _ _ _ _ _ PySem.F.plainAttrs_list PySem.F.slot_list_append PySem.F.type_list_append mt_append (pv 2) (@pa_cons _ _ _ _ _ (@pe_fn _ _ _ _ _ _ _ _ _ _ _ _ _ _ T.l_unlike (ok_l_unlike T) hr (by decide) (@pa_cons _ _ _ _ _ (pv 4) (@pa_cons _ _ _ _ _ (pv 5) (@pa_nil _) star_name) star_name) (by rfl) (by decide) (by rfl) (by rfl)) (@pa_nil _) star_call) (by rfl) (by rfl) (by rfl) (by rfl) (by rfl)) (by rfl))))))) (by intro _; rfl)) (@pss_one _ _ _ (@ps_ret _ _ _ _ (pv 2))))), ?_⟩
    refine st_setG (gv_lst pa_n (by show 0 ≤ sizeLine; decide)) ?_
    rintro _ _ ⟨p, hp, rfl, rfl⟩
    have s0 : Same H (upd H p (.lst [])) := Same.upd hp
    obtain ⟨n1, n2⟩ : hd ≠ p ∧ sc ≠ p := by
      obtain ⟨ns, i, b, c, p', q, h1, h2, h0⟩ := hh
      exact ⟨fun e => (by rw [e, hp] at h1; cases h1), fun e => (by rw [e, hp] at h2; cases h2)⟩
    refine st_rangeG (ga_pu (pa_c (pu_v rfl) pa_n)) ?_
    rintro _ H0 ⟨rfl, e⟩
    subst e
    refine ⟨m, rfl, by omega, by omega, fun i σ H1 => (∃ c d e : Option V, σ = [some (.ref hd), some (.int m), some (.ref p), c, d, e]) ∧ HandAt H1 hd sc ∧ SameB hd H H1 ∧ ∃ ys nss, H1 p = some (.lst ys) ∧ TupsT H1 ys nss ∧ nss.length = i ∧ GoodR nss ∧ (i = m → nss.head? ≠ nss.getLast?), ⟨⟨_, _, _, rfl⟩, hh.same s0, s0.b, [], [], upd_same, .nil, rfl, ⟨fun _ h => (nomatch h), fun j ns ms h => (by simp at h)⟩, fun e => (by omega)⟩, ?_, ?_⟩
    · rintro i σ H1 hi ⟨⟨c, d, e, rfl⟩, hh1, s1, ys, nss, hp1, ht1, hl1, g1, _⟩
      have him : i < m := by omega
      obtain ⟨zs1, hzs1⟩ := hh1.ls
      refine st_setG (R := fun v H2 => ∃ ns, TupT H2 v ns ∧ lpI ns = true ∧ HandAt H2 hd sc ∧ SameB hd H1 H2) (gv_call (pa_c (pu_v rfl) pa_n) fun Q q => ⟨hd, sc, rfl, hh1, fun v ns H' a b c d => q _ _ ⟨ns, a, b, c, d⟩⟩) ?_
      rintro v2 H2 ⟨ns2, tv2, lp2, hh2, s2⟩
      have up : ∀ {Ha Hb : Hp}, HandAt Ha hd sc → SameB hd Ha Hb → Ha p = some (.lst ys) ∧ TupsT Ha ys nss → Hb p = some (.lst ys) ∧ TupsT Hb ys nss := fun {Ha Hb} hha s h => ⟨s _ _ h.1 (Ne.symm n1), h.2.mono fun _ _ t => tup_but hha t s⟩
      have u2 := up hh1 s2 ⟨hp1, ht1⟩
      have yl : ys.length = i := by rw [← hl1]; exact ht1.len
      refine st_ifSetG (k := 4) (v0 := v2) (RB := fun b H3 => HandAt H3 hd sc ∧ SameB hd H2 H3 ∧ (b = true → 1 < i)) (R := fun v H3 => ∃ ns, TupT H3 v ns ∧ lpI ns = true ∧ HandAt H3 hd sc ∧ SameB hd H2 H3) (gt_and (R := fun b H3 => H3 = H2 ∧ (b = true → 1 < i)) (PuT.gt (pt_t (pu_gt (pu_v rfl) pu_c)) ⟨rfl, fun e => by have := of_decide_eq_true e; omega⟩) (fun H3 r => ?_) (fun H3 r => ⟨by rw [r.1]; exact hh2, by rw [r.1]; exact SameB.refl _ _, fun e => by cases e⟩)) (fun H3 r => ?_) rfl (fun H3 r => ⟨ns2, tup_but hh2 tv2 r.2.1, lp2, r.1, r.2.1⟩) ?_
      · obtain ⟨rfl, r2⟩ := r
        intro Q q
        dsimp only [tTest, tOp, tC]
        refine gv_draw hh2 (pa_c (pu_v rfl) (pa_c pu_c pa_n)) (by decide) Bd.small _ ?_
        rintro _ H4 ⟨⟨n, rfl, z0, z1⟩, hh4, s4⟩
        exact ⟨rfl, _, rfl, q _ _ ⟨hh4, s4, fun _ => r2 rfl⟩⟩
      · obtain ⟨hh3, s3, h3⟩ := r
        have h1i := h3 rfl
        have u3 := up hh2 s3 u2
        intro Q q
        dsimp only [tOp]
        refine pu_v (v := .ref p) rfl _ (gv_draw (m := 0 + (i : Int)) hh3 (pa_c (pu_v rfl) (pa_c (pu_v rfl) pa_n)) (by omega) (Bd.small (by omega)) _ ?_)
        rintro _ H4 ⟨⟨n, rfl, z0, z1⟩, hh4, s4⟩
        have u4 := up hh3 s4 u3
        obtain ⟨y, hy⟩ : ∃ y, ys[n.toNat]? = some y := ⟨_, List.getElem?_eq_getElem (by omega)⟩
        obtain ⟨ns, hns, ty⟩ := u4.2.get' hy
        have hat : atI ys n = some y := by
          have := atI_nat hy
          rwa [show ((n.toNat : Nat) : Int) = n by omega] at this
        exact ⟨p, ys, n, y, rfl, rfl, SqL.of u4.1, hat, q _ _ ⟨ns, ty, g1.lp ns (List.mem_of_getElem? hns), hh4, s3.trans s4⟩⟩
      rintro v3 H3 ⟨ns3, tv3, lp3, hh3, s3⟩
      have u3 := up hh2 s3 u2
      -- the others
      refine st_setG (R := fun v H4 => ∃ q, v = .ref q ∧ H3 q = none ∧ H4 = upd H3 q (.lst (ys.drop (i - 1)))) (fun Q g => ?_) ?_
      · refine pu_v (v := .ref p) rfl _ ?_
        refine (pu_cast (pu_sub (pu_v rfl) pu_c) (show V.int (0 + (i : Int) - 1) = .int ((i : Int) - 1) by rw [Int.zero_add])) _ ⟨_, rfl, ?_⟩
        refine (pu_cast (pu_v (v := .int (0 + (i : Int))) rfl) (show V.int (0 + (i : Int)) = .int (i : Int) by rw [Int.zero_add])) _ ⟨_, rfl, p, ys, rfl, SqL.of u3.1, fun q hq => ?_⟩
        rw [cut_last yl]
        exact g _ _ ⟨q, rfl, hq, rfl⟩
      rintro _ _ ⟨q, rfl, hq, rfl⟩
      have s4 : Same H3 (upd H3 q (.lst (ys.drop (i - 1)))) := Same.upd hq
      have hh4 := hh3.same s4
      have hp4 := s4 _ _ u3.1
      have ht4 := u3.2.mono fun _ _ t => t.same s4
      have tv4 := tv3.same s4
      have hq4 : (upd H3 q (.lst (ys.drop (i - 1)))) q = some (.lst (ys.drop (i - 1))) := upd_same
      have s04 : SameB hd H (upd H3 q (.lst (ys.drop (i - 1)))) := s1.trans (s2.trans (s3.trans s4.b))
      generalize upd H3 q (.lst (ys.drop (i - 1))) = H4 at s4 hh4 hp4 ht4 tv4 hq4 s04 ⊢
      refine st_ifSet (k := 5) (v0 := .ref q) (R := fun v H5 => Same H4 H5 ∧ ∃ q' ys' nss', v = .ref q' ∧ H5 q' = some (.lst ys') ∧ TupsT H5 ys' nss' ∧ nss'.length ≤ 2 ∧ (∀ ns, 0 < i → nss[i - 1]? = some ns → ns ∈ nss') ∧ (i = m - 1 → ∀ ns, nss[0]? = some ns → ns ∈ nss')) (pt_t (pu_eqI (pu_v rfl) (pu_sub (pu_v rfl) pu_c))) (fun e => fun Q g => ?_) rfl (fun e => ⟨Same.rfl', q, _, nss.drop (i - 1), rfl, hq4, ht4.drop _, by rw [List.length_drop]; omega, fun ns hi0 hn => ?_, fun em => ?_⟩) ?_
      · dsimp only [tOp, tSl, tNoPart, tPart, tC]
        refine pu_v (v := .ref q) rfl _ (pu_v (v := .ref p) rfl _ ?_)
        refine ⟨1, rfl, p, ys, rfl, SqL.of hp4, fun p2 hp2 => ?_⟩
        rw [cut_first]
        have s5 : Same H4 (upd H4 p2 (.lst (ys.take 1))) := Same.upd hp2
        refine ⟨q, p2, _, _, rfl, rfl, s5 _ _ hq4, upd_same, Nat.le_trans (by rw [List.length_drop, List.length_take]; omega : _ ≤ 1000) (by decide), fun p3 hp3 => g _ _ ⟨s5.trans (Same.upd hp3), p3, _, nss.drop (i - 1) ++ nss.take 1, rfl, upd_same, ((ht4.drop _).app (ht4.take 1)).mono fun _ _ t => t.same (s5.trans (Same.upd hp3)), by rw [List.length_append, List.length_drop, List.length_take]; omega, fun ns hi0 hn => List.mem_append_left _ ?_, fun em ns hn => List.mem_append_right _ ?_⟩⟩
        · exact List.mem_of_getElem? (i := 0) (by rw [List.getElem?_drop, Nat.add_zero]; exact hn)
        · exact List.mem_of_getElem? (i := 0) (by rw [List.getElem?_take_of_lt (by decide)]; exact hn)
      · exact List.mem_of_getElem? (i := 0) (by rw [List.getElem?_drop, Nat.add_zero]; exact hn)
      · have := of_decide_eq_false e
        omega
      rintro _ H5 ⟨s5, q', ys', nss', rfl, hq5, ht5, l5, c1, c2⟩
      refine st_app1 (xs := ys) (R := fun v H6 => Same H5 H6 ∧ ∃ ms, TupT H6 v ms ∧ lpI ms = true ∧ ms ∉ nss') (pu_v rfl) (s5 _ _ hp4) (gv_call (pa_c (pu_v rfl) (pa_c (pu_v rfl) pa_n)) fun Q g => ⟨v3, q', ns3, ys', nss', rfl, tv4.same s5, lp3, hq5, ht5, l5, fun r ms H' s t l n => g _ _ ⟨s, ms, t, l, n⟩⟩) ?_
      rintro v6 H6 ⟨s6, ms, t6, l6, n6⟩
      have hp6 := s6 _ _ (s5 _ _ hp4)
      have ht6 := ht4.mono fun _ _ t => t.same (s5.trans s6)
      have hh6 := hh4.same (s5.trans s6)
      refine ⟨ys, hp6, Nat.lt_of_le_of_lt (by omega : ys.length ≤ 100) (by decide), ⟨_, _, _, rfl⟩, ?_, ?_, ys ++ [v6], nss ++ [ms], upd_same, (ht6.snoc t6).lstUpd hp6, by rw [List.length_append, hl1]; rfl, ⟨fun ns hm => ?_, fun j a b ha hb => ?_⟩, fun em => ?_⟩
      · obtain ⟨z1, z2, z3, z4, z5, z6, h1, h2, h0⟩ := hh6
        exact ⟨z1, z2, z3, z4, z5, z6, by rw [upd_ne n1]; exact h1, by rw [upd_ne n2]; exact h2, h0⟩
      · intro b o eb nb
        rw [upd_ne (fun z => by rw [z, hp] at eb; cases eb)]
        exact (s5.trans s6) _ _ (s04 _ _ eb nb)
      · rcases List.mem_append.mp hm with hm | hm
        · exact g1.lp ns hm
        · rw [List.mem_singleton.mp hm]; exact l6
      · by_cases hj : j + 1 < nss.length
        · rw [List.getElem?_append_left (by omega)] at ha
          rw [List.getElem?_append_left hj] at hb
          exact g1.ne j a b ha hb
        · by_cases hj2 : j + 1 = nss.length
          · rw [List.getElem?_append_left (by omega)] at ha
            rw [List.getElem?_append_right (by omega), hj2, Nat.sub_self] at hb
            have hb' : ms = b := by simpa using hb
            subst hb'
            intro e
            subst e
            exact n6 (c1 a (by omega) (by rw [← hl1, ← hj2, Nat.add_sub_cancel]; exact ha))
          · rw [List.getElem?_eq_none (by rw [List.length_append, List.length_singleton]; omega)] at hb
            cases hb
      · obtain ⟨n0, h0⟩ : ∃ n0, nss[0]? = some n0 := ⟨_, List.getElem?_eq_getElem (by omega)⟩
        rw [List.head?_eq_getElem?, List.getElem?_append_left (by omega), h0, List.getLast?_append]
        intro e
        have e' : n0 = ms := by simpa using e
        exact n6 (e' ▸ c2 (by omega) n0 h0)
    · rintro σ H1 ⟨⟨c, d, e, rfl⟩, hh1, s1, ys, nss, hp1, ht1, hl1, g1, hne⟩
      exact st_ret (pu_v rfl) (k p ys nss H1 hp hp1 ht1 (by omega) g1 (hne (by omega)) hh1 s1)
def noA (a b c : Int) : List D := [.non, .str (Str.ofString "0,0"), .lst [.int a, .int b, .int c], .tup [.int a, .int b], .tup [.int a, .int b, .int c, .int 1], .tup [.int (2 * a), .int (2 * b), .int (2 * c)], .tup [.int a, .int b, .int 0], .tup [.int a, .int b, .int (-c)], .int 7, .tup []]
def noB (a b c : Int) : List D := [.tup [.bl true, .int b, .int 1], .tup [.int a, .bl false, .int 1], .tup [.int a, .int b, .bl true], .tup [.int a, .non, .int c], .tup [.tup [.int a, .int b, .int c]], .tup [.str (Str.ofString "0"), .int b, .int 1], .dct]
def noC (a b m : Int) : List D := [.tup [.int (10 ^ 12 + m), .int b, .int 1], .tup [.int (-10 ^ 12 - m), .int b, .int 1], .tup [.int a, .int (10 ^ 12 + 1), .int 1], .tup [.int a, .int (-10 ^ 12 - m), .int 1]]
def noE (a b m : Int) : List D := [.tup [.int 1, .int b, .int (10 ^ 6 + m)], .tup [.int a, .int 1, .int (10 ^ 6 + 1)], .tup [.int (10 ^ 12 + 1), .int 1, .int 2]]
theorem lp_no {x y z : Int} (h : lpI [x, y, z] = false) : lpL (.tup [.int x, .int y, .int z]) = none := by
  show (if lpI [x, y, z] = true then some [x, y, z] else none) = none
  rw [if_neg (by rw [h]; decide)]
theorem lpI_no {x y z : Int} (h : ¬ (x.natAbs ≤ 1000000000000 ∧ y.natAbs ≤ 1000000000000 ∧ 1 ≤ z ∧ z ≤ 1000000)) : lpI [x, y, z] = false := by
  rw [Bool.eq_false_iff]
  exact fun q => h (lpI_parts q)
theorem no24 {a b c m : Int} (lp : lpI [a, b, c] = true) (hm : 1 ≤ m) : ∀ d ∈ noA a b c ++ noB a b c ++ noC a b m ++ noE a b m, lpL d = none := by
  obtain ⟨b1, b2, b3, b4⟩ := lpI_parts lp
  have n12 : (10 : Int) ^ 12 = 1000000000000 := by decide
  have n6 : (10 : Int) ^ 6 = 1000000 := by decide
  intro d hd
  simp only [noA, noB, noC, noE, List.mem_append, List.mem_cons, List.not_mem_nil, or_false] at hd
  rcases hd with ((hd | hd) | hd) | hd
  · rcases hd with rfl | rfl | rfl | rfl | rfl | rfl | rfl | rfl | rfl | rfl
    · rfl
    · rfl
    · rfl
    · exact lpL_ok (okN_len (by simp))
    · exact lpL_ok (okN_len (by simp))
    · refine lpL_ok ?_
      have := okN_ints 3 ([a, b, c].map (· * 2))
      rw [okI_mul (by decide)] at this
      rw [Int.mul_comm 2 a, Int.mul_comm 2 b, Int.mul_comm 2 c]
      exact this
    · exact lp_no (lpI_no (by omega))
    · exact lp_no (lpI_no (by omega))
    · rfl
    · exact lpL_ok (okN_len (by simp))
  · rcases hd with rfl | rfl | rfl | rfl | rfl | rfl | rfl <;> rfl
  · rcases hd with rfl | rfl | rfl | rfl <;> exact lp_no (lpI_no (by omega))
  · rcases hd with rfl | rfl | rfl <;> exact lp_no (lpI_no (by omega))
theorem st_asg {σ : L2.St} {H : Hp} {D : Ends} {rest : TS} {te : TE} {g : TG} {v : V} (h : Pu te σ H v) (q : g v σ H fun σ2 H2 => rest D σ2 H2) : tSeq (tAsg te g) rest D σ H := h _ q
def sp_l_no_point : Sp := fun vs H Q _ => ∃ hd sc v ns, vs = [.ref hd, v] ∧ HandAt H hd sc ∧ TupT H v ns ∧ lpI ns = true ∧ ∀ r d H', (∀ s, H s ≠ none → DAt s H' r d) → lpL d = none → HandAt H' hd sc → SameB hd H H' → Q r H'
theorem sc_l_no_point : FnScope ["_law_hand_here", "_law_p", "_law_a", "_law_b", "_law_c", "_law_more", "_law_some"] ["_law_hand_here", "_law_p"] (defScope s_l_no_point) := ⟨rfl, rfl, rfl, by decide +kernel, rfl, by decide +kernel, by decide +kernel⟩
theorem ok_l_no_point (T : Txt K mg t) : FnOk P w K mg base CX0 4 t.f_l_no_point t.d_l_no_point ["_law_hand_here", "_law_p"] sp_l_no_point := by
  refine T.l_no_point.F.ok (k := 3) sc_l_no_point (fun vs H Q E h => ?_) (fun cdv A outer s H vs Q E hr h => ?_)
  · obtain ⟨hd, sc, v, ns, rfl, _⟩ := h
    rfl
  · obtain ⟨hd, sc, v, ns, rfl, hh, tv, lp, k⟩ := h
    refine ⟨_, (@pss_cons _ _ _ _ _ (@ps_asg _ _ _ _ _ _ (pv 1) (@pg_tup _ _ _ _ _ _ rfl (@pgs_cons _ _ _ _ _ (@pg_name _ _ 2 _ sc_l_no_point.nd rfl (Or.inl rfl) (by first | exact .inl rfl | exact .inr rfl | assumption)) (@pgs_cons _ _ _ _ _ (@pg_name _ _ 3 _ sc_l_no_point.nd rfl (Or.inl rfl) (by first | exact .inl rfl | exact .inr rfl | assumption)) (@pgs_cons _ _ _ _ _ (@pg_name _ _ 4 _ sc_l_no_point.nd rfl (Or.inl rfl) (by first | exact .inl rfl | exact .inr rfl | assumption)) (@pgs_nil _) (by rfl)) (by rfl)) (by rfl)) (by rfl) (by rfl)) (by rfl) (by rfl) (by rfl)) (@pss_cons _ _ _ _ _ (@ps_set _ _ 5 _ _ _ _ sc_l_no_point.nd rfl (Or.inl rfl) (@pe_op _ _ _ _ _ _ _ _ op_add (@pe_int _ _ _ _) (@pe_fn _ _ _ _ _ _ _ _ _ _ _ _ _ _ T.l_draw (ok_l_draw T) hr (by decide) (@pa_cons _ _ _ _ _ (pv 0) (@pa_cons _ _ _ _ _ (@pe_op _ _ _ _ _ _ _ _ op_pow (@pe_int _ _ _ _) (@pe_int _ _ _ _)) (@pa_nil _) star_bin) star_name) (by rfl) (by decide) (by rfl) (by rfl))) (by rfl) (by first | exact .inl rfl | exact .inr rfl | assumption)) (@pss_cons _ _ _ _ _ (@ps_set _ _ 6 _ _ _ _ sc_l_no_point.nd rfl (Or.inl rfl) (@pe_lst _ _ _ _ (@pa_cons _ _ _ _ _ (@pe_non _ _ _) (@pa_cons _ _ _ _ _ (@pe_str _ _ _ _) (@pa_cons _ _ _ _ _ (@pe_lst _ _ _ _ (@pa_cons _ _ _ _ _ (pv 2) (@pa_cons _ _ _ _ _ (pv 3) (@pa_cons _ _ _ _ _ (pv 4) (@pa_nil _) star_name) star_name) star_name)) (@pa_cons _ _ _ _ _ (@pe_tup _ _ _ _ _ (@pa_cons _ _ _ _ _ (pv 2) (@pa_cons _ _ _ _ _ (pv 3) (@pa_nil _) star_name) star_name)) (@pa_cons _ _ _ _ _ (@pe_tup _ _ _ _ _ (@pa_cons _ _ _ _ _ (pv 2) (@pa_cons _ _ _ _ _ (pv 3) (@pa_cons _ _ _ _ _ (pv 4) (@pa_cons _ _ _ _ _ (@pe_int _ _ _ _) (@pa_nil _) star_con) star_name) star_name) star_name)) (@pa_cons _ _ _ _ _ (@pe_tup _ _ _ _ _ (@pa_cons _ _ _ _ _ (@pe_op _ _ _ _ _ _ _ _ op_mulB (@pe_int _ _ _ _) (pv 2)) (@pa_cons _ _ _ _ _ (@pe_op _ _ _ _ _ _ _ _ op_mulB (@pe_int _ _ _ _) (pv 3)) (@pa_cons _ _ _ _ _ (@pe_op _ _ _ _ _ _ _ _ op_mulB (@pe_int _ _ _ _) (pv 4)) (@pa_nil _) star_bin) star_bin) star_bin)) (@pa_cons _ _ _ _ _ (@pe_tup _ _ _ _ _ (@pa_cons _ _ _ _ _ (pv 2) (@pa_cons _ _ _ _ _ (pv 3) (@pa_cons _ _ _ _ _ (@pe_int _ _ _ _) (@pa_nil _) star_con) star_name) star_name)) (@pa_cons _ _ _ _ _ (@pe_tup _ _ _ _ _ (@pa_cons _ _ _ _ _ (pv 2) (@pa_cons _ _ _ _ _ (pv 3) (@pa_cons _ _ _ _ _ (@pe_un _ _ _ _ _ _ un_neg (pv 4)) (@pa_nil _) star_un) star_name) star_name)) (@pa_cons _ _ _ _ _ (@pe_int _ _ _ _) (@pa_cons _ _ _ _ _ (@pe_tup _ _ _ _ _ (@pa_nil _)) (@pa_nil _) star_tup) star_con) star_tup) star_tup) star_tup) star_tup) star_tup) star_lst) star_con) star_con)) (by rfl) (by first | exact .inl rfl | exact .inr rfl | assumption)) (@pss_cons _ _ _ _ _ (@ps_set _ _ 6 _ _ _ _ sc_l_no_point.nd rfl (Or.inl rfl) (@pe_op _ _ _ _ _ _ _ _ op_cat (pv 6) (@pe_lst _ _ _ _ (@pa_cons _ _ _ _ _ (@pe_tup _ _ _ _ _ (@pa_cons _ _ _ _ _ (@pe_bl _ _ _ _) (@pa_cons _ _ _ _ _ (pv 3) (@pa_cons _ _ _ _ _ (@pe_int _ _ _ _) (@pa_nil _) star_con) star_name) star_con)) (@pa_cons _ _ _ _ _ (@pe_tup _ _ _ _ _ (@pa_cons _ _ _ _ _ (pv 2) (@pa_cons _ _ _ _ _ (@pe_bl _ _ _ _) (@pa_cons _ _ _ _ _ (@pe_int _ _ _ _) (@pa_nil _) star_con) star_con) star_name)) (@pa_cons _ _ _ _ _ (@pe_tup _ _ _ _ _ (@pa_cons _ _ _ _ _ (pv 2) (@pa_cons _ _ _ _ _ (pv 3) (@pa_cons _ _ _ _ _ (@pe_bl _ _ _ _) (@pa_nil _) star_con) star_name) star_name)) (@pa_cons _ _ _ _ _ (@pe_tup _ _ _ _ _ (@pa_cons _ _ _ _ _ (pv 2) (@pa_cons _ _ _ _ _ (@pe_non _ _ _) (@pa_cons _ _ _ _ _ (pv 4) (@pa_nil _) star_name) star_con) star_name)) (@pa_cons _ _ _ _ _ (@pe_tup _ _ _ _ _ (@pa_cons _ _ _ _ _ (@pe_tup _ _ _ _ _ (@pa_cons _ _ _ _ _ (pv 2) (@pa_cons _ _ _ _ _ (pv 3) (@pa_cons _ _ _ _ _ (pv 4) (@pa_nil _) star_name) star_name) star_name)) (@pa_nil _) star_tup)) (@pa_cons _ _ _ _ _ (@pe_tup _ _ _ _ _ (@pa_cons _ _ _ _ _ (@pe_str _ _ _ _) (@pa_cons _ _ _ _ _ (pv 3) (@pa_cons _ _ _ _ _ (@pe_int _ _ _ _) (@pa_nil _) star_con) star_name) star_con)) (@pa_cons _ _ _ _ _ (pe_disp (pps_cons (@pe_int _ _ _ _) (pv 1) pps_nil) rfl rfl (by decide) (by decide)) (@pa_nil _) (by rfl)) star_tup) star_tup) star_tup) star_tup) star_tup) star_tup))) (by rfl) (by first | exact .inl rfl | exact .inr rfl | assumption)) (@pss_cons _ _ _ _ _ (@ps_set _ _ 6 _ _ _ _ sc_l_no_point.nd rfl (Or.inl rfl) (@pe_op _ _ _ _ _ _ _ _ op_cat (pv 6) (@pe_lst _ _ _ _ (@pa_cons _ _ _ _ _ (@pe_tup _ _ _ _ _ (@pa_cons _ _ _ _ _ (@pe_op _ _ _ _ _ _ _ _ op_add (@pe_op _ _ _ _ _ _ _ _ op_pow (@pe_int _ _ _ _) (@pe_int _ _ _ _)) (pv 5)) (@pa_cons _ _ _ _ _ (pv 3) (@pa_cons _ _ _ _ _ (@pe_int _ _ _ _) (@pa_nil _) star_con) star_name) star_bin)) (@pa_cons _ _ _ _ _ (@pe_tup _ _ _ _ _ (@pa_cons _ _ _ _ _ (@pe_op _ _ _ _ _ _ _ _ op_sub (@pe_un _ _ _ _ _ _ un_neg (@pe_op _ _ _ _ _ _ _ _ op_pow (@pe_int _ _ _ _) (@pe_int _ _ _ _))) (pv 5)) (@pa_cons _ _ _ _ _ (pv 3) (@pa_cons _ _ _ _ _ (@pe_int _ _ _ _) (@pa_nil _) star_con) star_name) star_bin)) (@pa_cons _ _ _ _ _ (@pe_tup _ _ _ _ _ (@pa_cons _ _ _ _ _ (pv 2) (@pa_cons _ _ _ _ _ (@pe_op _ _ _ _ _ _ _ _ op_add (@pe_op _ _ _ _ _ _ _ _ op_pow (@pe_int _ _ _ _) (@pe_int _ _ _ _)) (@pe_int _ _ _ _)) (@pa_cons _ _ _ _ _ (@pe_int _ _ _ _) (@pa_nil _) star_con) star_bin) star_name)) (@pa_cons _ _ _ _ _ (@pe_tup _ _ _ _ _ (@pa_cons _ _ _ _ _ (pv 2) (@pa_cons _ _ _ _ _ (@pe_op _ _ _ _ _ _ _ _ op_sub (@pe_un _ _ _ _ _ _ un_neg (@pe_op _ _ _ _ _ _ _ _ op_pow (@pe_int _ _ _ _) (@pe_int _ _ _ _))) (pv 5)) (@pa_cons _ _ _ _ _ (@pe_int _ _ _ _) (@pa_nil _) star_con) star_bin) star_name)) (@pa_nil _) star_tup) star_tup) star_tup) star_tup))) (by rfl) (by first | exact .inl rfl | exact .inr rfl | assumption)) (@pss_cons _ _ _ _ _ (@ps_set _ _ 6 _ _ _ _ sc_l_no_point.nd rfl (Or.inl rfl) (@pe_op _ _ _ _ _ _ _ _ op_cat (pv 6) (@pe_lst _ _ _ _ (@pa_cons _ _ _ _ _ (@pe_tup _ _ _ _ _ (@pa_cons _ _ _ _ _ (@pe_int _ _ _ _) (@pa_cons _ _ _ _ _ (pv 3) (@pa_cons _ _ _ _ _ (@pe_op _ _ _ _ _ _ _ _ op_add (@pe_op _ _ _ _ _ _ _ _ op_pow (@pe_int _ _ _ _) (@pe_int _ _ _ _)) (pv 5)) (@pa_nil _) star_bin) star_name) star_con)) (@pa_cons _ _ _ _ _ (@pe_tup _ _ _ _ _ (@pa_cons _ _ _ _ _ (pv 2) (@pa_cons _ _ _ _ _ (@pe_int _ _ _ _) (@pa_cons _ _ _ _ _ (@pe_op _ _ _ _ _ _ _ _ op_add (@pe_op _ _ _ _ _ _ _ _ op_pow (@pe_int _ _ _ _) (@pe_int _ _ _ _)) (@pe_int _ _ _ _)) (@pa_nil _) star_bin) star_con) star_name)) (@pa_cons _ _ _ _ _ (@pe_tup _ _ _ _ _ (@pa_cons _ _ _ _ _ (@pe_op _ _ _ _ _ _ _ _ op_add (@pe_op _ _ _ _ _ _ _ _ op_pow (@pe_int _ _ _ _) (@pe_int _ _ _ _)) (@pe_int _ _ _ _)) (@pa_cons _ _ _ _ _ (@pe_int _ _ _ _) (@pa_cons _ _ _ _ _ (@pe_int _ _ _ _) (@pa_nil _) star_con) star_con) star_bin)) (@pa_nil _) star_tup) star_tup) star_tup))) (by rfl) (by first | exact .inl rfl | exact .inr rfl | assumption)) (@pss_one _ _ _ (@ps_ret _ _ _ _ (@pe_ix _ _ _ _ _ _ _ ix_list (pv 6) (@pe_fn _ _ _ _ _ _ _ _ _ _ _ _ _ _ T.l_draw (ok_l_draw T) hr (by decide) (@pa_cons _ _ _ _ _ (pv 0) (@pa_cons _ _ _ _ _ (@pe_callB _ _ _ _ _ _ _ _ _ call_len_seq (by rfl) T.b_len PySem.boot_len (@pa_cons _ _ _ _ _ (pv 6) (@pa_nil _) star_name) (by decide) (by decide) (by rfl) (by rfl)) (@pa_nil _) star_call) star_name) (by rfl) (by decide) (by rfl) (by rfl)) (fun _ _ => rfl)))))))))), ?_⟩
    obtain ⟨a, b, c, rfl⟩ := lpI_len lp
    obtain ⟨pa, rfl, hpa⟩ := id tv
    obtain ⟨ys, hys⟩ := hh.ls
    refine st_asg (v := .ref pa) (pu_v rfl) ⟨pa, _, rfl, SqT.of hpa, rfl, _, _, rfl, _, _, rfl, _, [], rfl, rfl, ?_⟩
    have P6 : ∀ {σ : L2.St} {H' : Hp}, Pu (tOp (rI CPow fun i j => .int (i ^ j.toNat)) (tC (.int 10)) (tC (.int 6))) σ H' (.int (10 ^ 6)) := pu_pow pu_c pu_c ⟨by decide, by decide, by decide⟩
    have P12 : ∀ {σ : L2.St} {H' : Hp}, Pu (tOp (rI CPow fun i j => .int (i ^ j.toNat)) (tC (.int 10)) (tC (.int 12))) σ H' (.int (10 ^ 12)) := pu_pow pu_c pu_c ⟨by decide, by decide, by decide⟩
    refine st_setG (R := fun v H2 => ∃ n : Int, v = .int n ∧ 1 ≤ n ∧ HandAt H2 hd sc ∧ SameB hd H H2) (fun Q q => ?_) ?_
    · dsimp only [tOp, tC]
      refine gv_draw (m := 10 ^ 6) hh (pa_c (pu_v rfl) (pa_c P6 pa_n)) (by decide) (by unfold Bd; decide +kernel) _ ?_
      rintro _ H2 ⟨⟨n, rfl, z0, z1⟩, hh2, s2⟩
      exact ⟨1, n, rfl, rfl, q _ _ ⟨1 + n, rfl, by omega, hh2, s2⟩⟩
    rintro _ H2 ⟨m, rfl, m1, hh2, s2⟩
    obtain ⟨ys2, hys2⟩ := hh2.ls
    have a8 : ∀ (x : Str), x.length ≤ 3 → (∀ c ∈ x.cps.toList, c < 128) → ((∀ c ∈ x.cps.toList, c < 128) ∧ x.length ≤ 1000) := fun x h1 h2 => ⟨h2, by omega⟩
    have DI : ∀ {σ : L2.St} {H0 : Hp} {te : TE} {n : Int}, (∀ H', Pu te σ H' (.int n)) → DES (fun s => H2 s ≠ none) σ H0 te (.int n) := fun h => es_p (fun H' _ => h H') fun _ _ _ _ => .int _
    refine st_setG (gv_lstS (S := fun s => H2 s ≠ none) (ds := noA a b c) (as_c es_n (as_c (es_s (a8 _ (by decide +kernel) (by decide +kernel))) (as_c (es_lst (fun _ h => h) (as_c (DI fun _ => pu_v rfl) (as_c (DI fun _ => pu_v rfl) (as_c (DI fun _ => pu_v rfl) as_n)))) (as_c (es_tup (as_c (DI fun _ => pu_v rfl) (as_c (DI fun _ => pu_v rfl) as_n))) (as_c (es_tup (as_c (DI fun _ => pu_v rfl) (as_c (DI fun _ => pu_v rfl) (as_c (DI fun _ => pu_v rfl) (as_c es_i as_n))))) (as_c (es_tup (as_c (DI fun _ => pu_mul pu_c (pu_v rfl) (IntMulOk.of_left (by decide))) (as_c (DI fun _ => pu_mul pu_c (pu_v rfl) (IntMulOk.of_left (by decide))) (as_c (DI fun _ => pu_mul pu_c (pu_v rfl) (IntMulOk.of_left (by decide))) as_n)))) (as_c (es_tup (as_c (DI fun _ => pu_v rfl) (as_c (DI fun _ => pu_v rfl) (as_c es_i as_n)))) (as_c (es_tup (as_c (DI fun _ => pu_v rfl) (as_c (DI fun _ => pu_v rfl) (as_c (DI fun _ => pu_neg (pu_v rfl)) as_n)))) (as_c es_i (as_c (es_tup as_n) as_n)))))))))) (by show 10 ≤ 1000; decide)) ?_
    rintro _ H3 ⟨q3, xs3, rfl, hq3, s3, hq3', l3, t3⟩
    have ho3 := s3 _ _ hys2
    refine st_setG (gv_catS (es := noB a b c) rfl hq3' l3 t3 (as_c (es_tup (as_c es_b (as_c (DI fun _ => pu_v rfl) (as_c es_i as_n)))) (as_c (es_tup (as_c (DI fun _ => pu_v rfl) (as_c es_b (as_c es_i as_n)))) (as_c (es_tup (as_c (DI fun _ => pu_v rfl) (as_c (DI fun _ => pu_v rfl) (as_c es_b as_n)))) (as_c (es_tup (as_c (DI fun _ => pu_v rfl) (as_c es_n (as_c (DI fun _ => pu_v rfl) as_n)))) (as_c (es_tup (as_c (es_tup (as_c (DI fun _ => pu_v rfl) (as_c (DI fun _ => pu_v rfl) (as_c (DI fun _ => pu_v rfl) as_n)))) as_n)) (as_c (es_tup (as_c (es_s (a8 _ (by decide +kernel) (by decide +kernel))) (as_c (DI fun _ => pu_v rfl) (as_c es_i as_n)))) (as_c (es_disp (kvs := [(.inl 0, .ref pa)]) (by intro H Q _ q; exact pu_v rfl _ q) (by show 1 ≤ 15; decide)) as_n))))))) (by show 17 ≤ 1000; decide)) ?_
    rintro _ H4 ⟨q4, xs4, rfl, hq4, s4, hq4', l4, t4⟩
    refine st_setG (gv_catS (es := noC a b m) rfl hq4' l4 t4 (as_c (es_tup (as_c (DI fun _ => pu_add P12 (pu_v rfl)) (as_c (DI fun _ => pu_v rfl) (as_c es_i as_n)))) (as_c (es_tup (as_c (DI fun _ => pu_sub (pu_neg P12) (pu_v rfl)) (as_c (DI fun _ => pu_v rfl) (as_c es_i as_n)))) (as_c (es_tup (as_c (DI fun _ => pu_v rfl) (as_c (DI fun _ => pu_add P12 pu_c) (as_c es_i as_n)))) (as_c (es_tup (as_c (DI fun _ => pu_v rfl) (as_c (DI fun _ => pu_sub (pu_neg P12) (pu_v rfl)) (as_c es_i as_n)))) as_n)))) (by show 21 ≤ 1000; decide)) ?_
    rintro _ H5 ⟨q5, xs5, rfl, hq5, s5, hq5', l5, t5⟩
    refine st_setG (gv_catS (es := noE a b m) rfl hq5' l5 t5 (as_c (es_tup (as_c es_i (as_c (DI fun _ => pu_v rfl) (as_c (DI fun _ => pu_add P6 (pu_v rfl)) as_n)))) (as_c (es_tup (as_c (DI fun _ => pu_v rfl) (as_c es_i (as_c (DI fun _ => pu_add P6 pu_c) as_n)))) (as_c (es_tup (as_c (DI fun _ => pu_add P12 pu_c) (as_c es_i (as_c es_i as_n)))) as_n))) (by show 24 ≤ 1000; decide)) ?_
    rintro _ H6 ⟨q6, xs6, rfl, hq6, s6, hq6', l6, t6⟩
    have s26 := s3.trans (s4.trans (s5.trans s6))
    have hh6 := hh2.same s26
    obtain ⟨ys6, hys6⟩ := hh6.ls
    have l6 : xs6.length = 24 := l6
    refine st_retG (R := fun r H7 => ∃ d, (∀ s, H s ≠ none → DAt s H7 r d) ∧ lpL d = none ∧ HandAt H7 hd sc ∧ SameB hd H H7) (fun Q q => ?_) fun r H7 z => by obtain ⟨d, h1, h2, h3, h4⟩ := z; exact k r d H7 h1 h2 h3 h4
    dsimp only [tOp]
    refine pu_v (v := .ref q6) rfl _ (gv_draw (m := 24) hh6 (pa_c (pu_v rfl) (pa_c (pu_cast (pu_lenL (pa_c (pu_v rfl) pa_n) (SqL.of hq6')) (by rw [l6]; rfl)) pa_n)) (by decide) Bd.small _ ?_)
    rintro _ H7 ⟨⟨n, rfl, z0, z1⟩, hh7, s7⟩
    have nq : q6 ≠ hd := fun e => by rw [e, (s3.trans (s4.trans s5)) _ _ hys2] at hq6; cases hq6
    have hq7 := s7 _ _ hq6' nq
    have up2 : ∀ s, H s ≠ none → H2 s ≠ none := fun s hs => by
      by_cases e : s = hd
      · rw [e, hys2]; exact fun z => by cases z
      · cases c : H s with
        | none => exact absurd c hs
        | some o => rw [s2 _ _ c e]; exact fun z => by cases z
    have hhd : H2 hd ≠ none := by rw [hys2]; exact fun z => by cases z
    have t7 : ∀ s, H s ≠ none → DsAt s H7 xs6 _ := fun s hs => DsAt.butD hys6 s7 (t6 s (up2 s hs)) (t6 hd hhd)
    have hH : H hd ≠ none := by rw [hys]; exact fun z => by cases z
    obtain ⟨d, hd8⟩ : ∃ d, (noA a b c ++ noB a b c ++ noC a b m ++ noE a b m)[n.toNat]? = some d := ⟨_, List.getElem?_eq_getElem (show n.toNat < 24 by omega)⟩
    obtain ⟨v, hv, _⟩ := (t7 hd hH).get' hd8
    have hvd : ∀ s, H s ≠ none → DAt s H7 v d := fun s hs => by
      obtain ⟨v', hv', r⟩ := (t7 s hs).get' hd8
      rw [hv] at hv'
      cases hv'
      exact r
    have hat : atI xs6 n = some v := by
      have := atI_nat hv
      rwa [show ((n.toNat : Nat) : Int) = n by omega] at this
    exact ⟨q6, xs6, n, v, rfl, rfl, SqL.of hq7, hat, q _ _ ⟨d, hvd, no24 lp m1 d (List.mem_of_getElem? hd8), hh7, s2.trans (s26.b.trans s7)⟩⟩
theorem is3_same {x y z : Int} {r : Pt3} (hz : 1 ≤ z) (h : Is3 x y z r) : okI 3 [x, y, z] = decide ([r.x, r.y, r.z] = [x, y, z]) := by
  rw [okI3, decide_eq_true hz, Bool.true_and, decide_eq_decide, gcd3_rot]
  obtain ⟨d, hd, a1, a2, a3⟩ := h.ex
  constructor
  · intro e
    have hdv : (d : Int) ∣ ((Int.gcd ((Int.gcd z x : Nat) : Int) y : Nat) : Int) := by
      refine Int.dvd_coe_gcd (Int.dvd_coe_gcd ?_ ?_) ?_
      · exact ⟨_, a3⟩
      · exact ⟨_, a1⟩
      · exact ⟨_, a2⟩
    rw [e] at hdv
    have : d = 1 := by
      have := Int.le_of_dvd (by decide) hdv
      omega
    subst this
    rw [a1, a2, a3]
    simp
  · intro e
    simp only [List.cons.injEq, and_true] at e
    obtain ⟨e1, e2, e3⟩ := e
    rw [← e1, ← e2, ← e3]
    have := h.cop
    omega
theorem tup_of_lp {hd : Addr} {H : Hp} {y : V} {d : D} {ms : List Int} (h : DAt hd H y d) (e : lpL d = some ms) : TupT H y ms := by
  obtain ⟨rfl, _⟩ := lpL_some e
  cases h with
  | @tup a' xs' ds' h' t' =>
    obtain ⟨ms', rfl, e6⟩ := ds_whole t' (ds_all t')
    have : ms = ms' := by
      have := congrArg intsD e6
      rw [intsD_ints, intsD_ints] at this
      exact Option.some.inj this
    subst this
    exact ⟨a', rfl, h'⟩
def sp_l_within : Sp := fun vs H Q _ => ∃ hd v d, vs = [v] ∧ DAt hd H v d ∧ ∀ H', Same H H' → Q (.bl (lpL d).isSome) H'
theorem sc_l_within : FnScope ["_law_p", "_law_number"] ["_law_p"] (defScope s_l_within) := ⟨rfl, rfl, rfl, by decide +kernel, rfl, by decide +kernel, by decide +kernel⟩
theorem ok_l_within (T : Txt K mg t) : FnOk P w K mg base CX0 3 t.f_l_within t.d_l_within ["_law_p"] sp_l_within := by
  refine T.l_within.F.ok (k := 2) sc_l_within (fun vs H Q E h => ?_) (fun cdv A outer s H vs Q E hr h => ?_)
  · obtain ⟨hd, v, d, rfl, _⟩ := h
    rfl
  · obtain ⟨hd, v, d, rfl, hv, k⟩ := h
    refine ⟨_, (@pss_cons _ _ _ _ _ (@ps_if _ _ _ _ _ _ _ _ (PW.pt (@pw_or _ _ _ _ _ _ _ (@pt_not _ _ _ _ (@pt_val _ _ _ (@pe_callB _ _ _ _ _ _ _ _ _ call_isinst (by rfl) T.b_isinstance PyProof.Rows.boot_isinstance (@pa_cons _ _ _ _ _ (pv 0) (@pa_cons _ _ _ _ _ (@pe_ty _ _ _ _ T.b_tuple PyProof.Rows.boot_tuple (by rfl) (by decide) (by decide)) (@pa_nil _) star_name) star_name) (by decide) (by decide) (by rfl) (by rfl)) (by intro _; rfl))) (@pw_or1 _ _ _ _ (@pt_cmpR _ _ _ _ _ _ _ _ op_ne (@pe_callB _ _ _ _ _ _ _ _ _ call_len_seq (by rfl) T.b_len PySem.boot_len (@pa_cons _ _ _ _ _ (pv 0) (@pa_nil _) star_name) (by decide) (by decide) (by rfl) (by rfl)) (@pe_int _ _ _ _) (nomark _))))) (@pss_one _ _ _ (@ps_ret _ _ _ _ (@pe_bl _ _ _ _))) (@pss_nil _)) (@pss_cons _ _ _ _ _ (@ps_for _ _ _ _ _ _ _ _ PassesOwn.never rfl (@pi_tup _ _ _ _ (pv 0)) (@pg_name _ _ 1 _ sc_l_within.nd rfl (Or.inl rfl) (by first | exact .inl rfl | exact .inr rfl | assumption)) (@pss_one _ _ _ (@ps_if _ _ _ _ _ _ _ _ (@pt_not _ _ _ _ (@pt_val _ _ _ (@pe_fn _ _ _ _ _ _ _ _ _ _ _ _ _ _ T.l_whole (ok_l_whole T) hr (by decide) (@pa_cons _ _ _ _ _ (pv 1) (@pa_nil _) star_name) (by rfl) (by decide) (by rfl) (by rfl)) (by intro _; rfl))) (@pss_one _ _ _ (@ps_ret _ _ _ _ (@pe_bl _ _ _ _))) (@pss_nil _))) (by intro _; rfl)) (@pss_cons _ _ _ _ _ (@ps_if _ _ _ _ _ _ _ _ (PW.pt (@pw_or _ _ _ _ _ _ _ (@pt_cmpR _ _ _ _ _ _ _ _ op_lt (@pe_ix _ _ _ _ _ _ _ ix_tup (pv 0) (@pe_int _ _ _ _) (fun _ _ => rfl)) (@pe_int _ _ _ _) (nomark _)) (@pw_or _ _ _ _ _ _ _ (@pt_cmpR _ _ _ _ _ _ _ _ op_gt (@pe_ix _ _ _ _ _ _ _ ix_tup (pv 0) (@pe_int _ _ _ _) (fun _ _ => rfl)) (@pe_op _ _ _ _ _ _ _ _ op_pow (@pe_int _ _ _ _) (@pe_int _ _ _ _)) (nomark _)) (@pw_or _ _ _ _ _ _ _ (@pt_cmpR _ _ _ _ _ _ _ _ op_gt (@pe_callB _ _ _ _ _ _ _ _ _ call_abs (by rfl) T.b_abs PyProof.Rows.boot_abs (@pa_cons _ _ _ _ _ (@pe_ix _ _ _ _ _ _ _ ix_tup (pv 0) (@pe_int _ _ _ _) (fun _ _ => rfl)) (@pa_nil _) star_sub) (by decide) (by decide) (by rfl) (by rfl)) (@pe_op _ _ _ _ _ _ _ _ op_pow (@pe_int _ _ _ _) (@pe_int _ _ _ _)) (nomark _)) (@pw_or1 _ _ _ _ (@pt_cmpR _ _ _ _ _ _ _ _ op_gt (@pe_callB _ _ _ _ _ _ _ _ _ call_abs (by rfl) T.b_abs PyProof.Rows.boot_abs (@pa_cons _ _ _ _ _ (@pe_ix _ _ _ _ _ _ _ ix_tup (pv 0) (@pe_int _ _ _ _) (fun _ _ => rfl)) (@pa_nil _) star_sub) (by decide) (by decide) (by rfl) (by rfl)) (@pe_op _ _ _ _ _ _ _ _ op_pow (@pe_int _ _ _ _) (@pe_int _ _ _ _)) (nomark _))))))) (@pss_one _ _ _ (@ps_ret _ _ _ _ (@pe_bl _ _ _ _))) (@pss_nil _)) (@pss_one _ _ _ (@ps_ret _ _ _ _ (@pe_cmpR _ _ _ _ _ _ _ _ (op_eqTI hr.units) (@pe_fn _ _ _ _ _ _ _ _ _ _ _ _ _ _ T.l_point (ok_l_point T) hr (by decide) (@pa_cons _ _ _ _ _ (@pe_ix _ _ _ _ _ _ _ ix_tup (pv 0) (@pe_int _ _ _ _) (fun _ _ => rfl)) (@pa_cons _ _ _ _ _ (@pe_ix _ _ _ _ _ _ _ ix_tup (pv 0) (@pe_int _ _ _ _) (fun _ _ => rfl)) (@pa_cons _ _ _ _ _ (@pe_ix _ _ _ _ _ _ _ ix_tup (pv 0) (@pe_int _ _ _ _) (fun _ _ => rfl)) (@pa_nil _) star_sub) star_sub) star_sub) (by rfl) (by decide) (by rfl) (by rfl)) (pv 0) (nomark _))))))), ?_⟩
    by_cases ht : d.isTup = true
    case neg =>
      have e0 : d.isTup = false := by simpa using ht
      refine st_ifN (b := true) (pt_or (b := true) (c := true) (pt_n (b := false) (pt_b (pu_isi (pa_c (pu_v rfl) (pa_c pu_c pa_n)) hv.ty (by rw [kd_tup, e0])))) (fun e => by cases e)) (fun _ => ?_) (fun e => by cases e)
      have e1 : lpL d = none := by cases d <;> first | rfl | cases e0
      rw [e1] at k
      exact st_ret pu_c (k _ Same.rfl')
    cases hv with
    | @tup a xs ds h td =>
      have hl := td.len
      refine st_ifN (pt_or (b := false) (c := !decide (xs.length = 3)) (pt_n (b := true) (pt_b (pu_isi (pa_c (pu_v rfl) (pa_c pu_c pa_n)) (.tup h) kit_same))) fun _ => pt_t (pu_cast (pu_neI (pu_lenT (pa_c (pu_v rfl) pa_n) (SqT.of h)) pu_c) (by congr 2; rw [decide_eq_decide]; omega))) (fun e => ?_) fun e => ?_
      · have e1 : ds.length ≠ 3 := by rw [← hl]; simpa using e
        rw [lpL_ok (okN_len e1)] at k
        exact st_ret pu_c (k _ Same.rfl')
      have e2 : xs.length = 3 := by simpa using e
      refine st_tupl (a := a) (xs := xs) (pu_v rfl) (fun i σ H' => H' = H ∧ (∃ c : Option V, σ = [some (.ref a), c]) ∧ ∀ j < i, ∀ x, xs[j]? = some x → wV x = true) ⟨rfl, ⟨_, rfl⟩, fun j hj => absurd hj (Nat.not_lt_zero _)⟩ (fun i σ H' _ p => by rw [p.1]; exact SqT.of h) ?_ ?_
      · rintro i x σ H' ex ⟨rfl, ⟨c, rfl⟩, hj⟩
        obtain ⟨di, hdi, hx⟩ := td.get ex
        refine st_ifN1 (pt_n (pt_b (pu_call (pa_c (pu_v rfl) pa_n) fun Q q => ⟨hd, x, di, rfl, hx, q⟩))) (fun e' => ?_) fun e' => ?_
        · have e3 : wV x = false := by rw [← wV_of hx]; simpa using e'
          have e4 : lpL (.tup ds) = none := by
            refine lpL_ok ?_
            show (match intsD ds with | some ns => okI 3 ns | none => false) = false
            rw [ds_not td (by
              rw [List.all_eq_false]
              exact ⟨wV x, List.mem_map.mpr ⟨x, List.mem_of_getElem? ex, rfl⟩, by rw [e3]; decide⟩)]
          rw [e4] at k
          exact st_ret pu_c (k _ Same.rfl')
        · refine ⟨rfl, ⟨_, rfl⟩, fun j hjj y hy => ?_⟩
          by_cases z : j < i
          · exact hj j z y hy
          · have : j = i := by omega
            subst this
            rw [ex] at hy
            cases hy
            rw [← wV_of hx]
            simpa using e'
      · rintro σ H' ⟨rfl, ⟨c, rfl⟩, hj⟩
        obtain ⟨ns, rfl, rfl⟩ := ds_whole td (by
          rw [List.all_eq_true]
          intro b hb
          obtain ⟨x, hx, rfl⟩ := List.mem_map.mp hb
          obtain ⟨i, hi⟩ := List.getElem?_of_mem hx
          exact hj i (List.getElem?_eq_some_iff.mp hi).1 x hi)
        rw [List.length_map] at e2
        match ns, e2 with
        | [x, y, z], _ =>
        have P6 : ∀ {σ : L2.St} {H' : Hp}, Pu (tOp (rI CPow fun i j => .int (i ^ j.toNat)) (tC (.int 10)) (tC (.int 6))) σ H' (.int (10 ^ 6)) := pu_pow pu_c pu_c ⟨by decide, by decide, by decide⟩
        have P12 : ∀ {σ : L2.St} {H' : Hp}, Pu (tOp (rI CPow fun i j => .int (i ^ j.toNat)) (tC (.int 10)) (tC (.int 12))) σ H' (.int (10 ^ 12)) := pu_pow pu_c pu_c ⟨by decide, by decide, by decide⟩
        have hlp : (lpL (.tup ([x, y, z].map D.int))).isSome = lpI [x, y, z] := by
          show (if lpI [x, y, z] = true then some [x, y, z] else none).isSome = _
          cases q : lpI [x, y, z] <;> rfl
        rw [hlp] at k
        refine st_ifN (pt_or (pt_t (pu_lt (pu_ixT (pu_v rfl) pu_c (SqT.of (h)) rfl) pu_c)) fun _ => pt_or (pt_t (pu_gt (pu_ixT (pu_v rfl) pu_c (SqT.of (h)) rfl) P6)) fun _ => pt_or (pt_t (pu_gt (pu_abs (pa_c (pu_ixT (pu_v rfl) pu_c (SqT.of (h)) rfl) pa_n)) P12)) fun _ => pt_t (pu_gt (pu_abs (pa_c (pu_ixT (pu_v rfl) pu_c (SqT.of (h)) rfl) pa_n)) P12)) (fun e' => ?_) fun e' => ?_
        · have e3 : lpI [x, y, z] = false := by
            rw [Bool.eq_false_iff]
            intro q
            unfold lpI at q
            rw [okI3] at q
            simp at q e'
            omega
          rw [e3] at k
          exact st_ret pu_c (k _ Same.rfl')
        · have bd : 1 ≤ z ∧ z ≤ 1000000 ∧ x.natAbs ≤ 1000000000000 ∧ y.natAbs ≤ 1000000000000 := by
            simp at e'
            omega
          refine st_retG (R := fun v H2 => v = .bl (lpI [x, y, z]) ∧ Same H' H2) (fun Q g => ?_) fun v H2 r => by obtain ⟨rfl, s⟩ := r; exact k _ s
          dsimp only [tOp]
          refine gv_point (pa_c (pu_ixT (pu_v rfl) pu_c (SqT.of (h)) rfl) (pa_c (pu_ixT (pu_v rfl) pu_c (SqT.of (h)) rfl) (pa_c (pu_ixT (pu_v rfl) pu_c (SqT.of (h)) rfl) pa_n))) (by omega) (Bd.small (by omega)) _ ?_
          rintro v H2 ⟨s2, r, hr2, hi⟩
          refine pu_v rfl _ ⟨[r.x, r.y, r.z], [x, y, z], TupT.i hr2, TupT.i ⟨a, rfl, s2 _ _ h⟩, g _ _ ⟨?_, s2⟩⟩
          rw [← is3_same (by omega) hi]
          unfold lpI
          congr 1
          rw [decide_eq_true (show (([x, y, z] : List Int).getD 0 0).natAbs ≤ 1000000000000 from bd.2.2.1), decide_eq_true (show (([x, y, z] : List Int).getD 1 0).natAbs ≤ 1000000000000 from bd.2.2.2), decide_eq_true (show ([x, y, z] : List Int).getD 2 0 ≤ 1000000 from bd.2.1)]
          simp
    | _ => cases ht
/-- a ring (a list that may be written) or what is none -/
def RingOr (hd T : Addr) (W : Addr → Prop) (H : Hp) (x : V) (d : D) : Prop :=
  (∃ p ys es, x = .ref p ∧ d = .lst es ∧ H p = some (.lst ys) ∧ W p ∧ p ≠ hd ∧ p ≠ T ∧ es.length ≤ 13 ∧ DsSt W H ys es) ∨ (isLst d = false ∧ DSt W H x d)
/-- rings that are told to be a layer, and the lists that may be written -/
structure Th (hd sc T : Addr) (W : Addr → Prop) (H : Hp) (xs : List V) (ds : List D) : Prop where
  hT : H T = some (.lst xs)
  len : xs.length = ds.length
  wh : W hd
  wt : W T
  on : ∀ s, W s → ∃ ys, H s = some (.lst ys)
  nt : T ≠ hd
  ns : ¬ W sc
  el : ∀ (i : Nat) x d, xs[i]? = some x → ds[i]? = some d → RingOr hd T W H x d
  nd : ∀ (i j : Nat) p ys, xs[i]? = some (.ref p) → xs[j]? = some (.ref p) → H p = some (.lst ys) → i = j
theorem Th.same {hd sc T : Addr} {W : Addr → Prop} {H H' : Hp} {xs : List V} {ds : List D} (h : Th hd sc T W H xs ds) (s : Same H H') : Th hd sc T W H' xs ds where
  hT := s _ _ h.hT
  len := h.len
  wh := h.wh
  wt := h.wt
  on := fun a ha => let ⟨ys, e⟩ := h.on a ha; ⟨ys, s _ _ e⟩
  nt := h.nt
  ns := h.ns
  el := fun i x d hx hd' => by
    rcases h.el i x d hx hd' with ⟨p, ys, es, e1, e2, e3, e4, e5, e6, e7, e8⟩ | ⟨e1, e2⟩
    · exact .inl ⟨p, ys, es, e1, e2, s _ _ e3, e4, e5, e6, e7, e8.same s⟩
    · exact .inr ⟨e1, e2.same s⟩
  nd := fun i j p ys h1 h2 h3 => by
    obtain ⟨d, hd'⟩ : ∃ d, ds[i]? = some d := ⟨_, List.getElem?_eq_getElem (by rw [← h.len]; exact (List.getElem?_eq_some_iff.mp h1).1)⟩
    rcases h.el i _ d h1 hd' with ⟨p', ys', es, e1, e2, e3, _⟩ | ⟨e1, e2⟩
    · cases e1; exact h.nd i j p _ h1 h2 e3
    · cases e2 T h.wt with
      | lst z n t => cases e1
      | tup z t => rw [s _ _ z] at h3; cases h3
      | dct z => rw [s _ _ z] at h3; cases h3
/-- a list that may be written is changed: hd, the layer or a ring -/
theorem Th.draw {hd sc T : Addr} {W : Addr → Prop} {H H' : Hp} {xs : List V} {ds : List D} (h : Th hd sc T W H xs ds) (s : SameB hd H H') (hh : HandAt H' hd sc) : Th hd sc T W H' xs ds := by
  obtain ⟨zs, hz⟩ := h.on hd h.wh
  obtain ⟨zs', hz'⟩ := hh.ls
  exact { hT := s _ _ h.hT h.nt, len := h.len, wh := h.wh, wt := h.wt
          on := fun a ha => by
            by_cases e : a = hd
            · exact ⟨zs', by rw [e]; exact hz'⟩
            · obtain ⟨ys, e2⟩ := h.on a ha
              exact ⟨ys, s _ _ e2 e⟩
          nt := h.nt, ns := h.ns
          el := fun i x d hx hd' => by
            rcases h.el i x d hx hd' with ⟨p, ys, es, e1, e2, e3, e4, e5, e6, e7, e8⟩ | ⟨e1, e2⟩
            · exact .inl ⟨p, ys, es, e1, e2, s _ _ e3 e5, e4, e5, e6, e7, e8.keep h.wh hz s⟩
            · exact .inr ⟨e1, e2.keep h.wh hz s⟩
          nd := fun i j p ys h1 h2 h3 => by
            obtain ⟨d, hd'⟩ : ∃ d, ds[i]? = some d := ⟨_, List.getElem?_eq_getElem (by rw [← h.len]; exact (List.getElem?_eq_some_iff.mp h1).1)⟩
            rcases h.el i _ d h1 hd' with ⟨p', ys', es, e1, e2, e3, _⟩ | ⟨e1, e2⟩
            · cases e1; exact h.nd i j p _ h1 h2 e3
            · cases e2.keep h.wh hz s T h.wt with
              | lst z n t => cases e1
              | tup z t => rw [z] at h3; cases h3
              | dct z => rw [z] at h3; cases h3 }
theorem set_get {α : Type} {xs : List α} {n i : Nat} {v x : α} (h : (xs.set n v)[i]? = some x) : (i = n ∧ x = v) ∨ (i ≠ n ∧ xs[i]? = some x) := by
  by_cases e : n = i
  · subst e
    have hl := (List.getElem?_eq_some_iff.mp h).1
    rw [List.length_set] at hl
    rw [List.getElem?_set_self hl] at h
    exact .inl ⟨rfl, (Option.some.inj h).symm⟩
  · rw [List.getElem?_set_ne e] at h
    exact .inr ⟨fun z => e z.symm, h⟩
/-- an item of the layer is put anew -/
theorem Th.put {hd sc T : Addr} {W : Addr → Prop} {H : Hp} {xs : List V} {ds : List D} (h : Th hd sc T W H xs ds) (n : Nat) {v : V} {d0 : D} (hv : RingOr hd T W H v d0) (hn : ∀ (p : Addr) (ys : List V), v = .ref p → H p = some (.lst ys) → ∀ (j : Nat), xs[j]? ≠ some (V.ref p)) : Th hd sc T W (upd H T (.lst (xs.set n v))) (xs.set n v) (ds.set n d0) := by
  have s : SameB T H (upd H T (.lst (xs.set n v))) := SameB.upd
  have RK : ∀ {x : V} {d : D}, RingOr hd T W H x d → RingOr hd T W (upd H T (.lst (xs.set n v))) x d := fun hr => by
    rcases hr with ⟨p, ys, es, e1, e2, e3, e4, e5, e6, e7, e8⟩ | ⟨e1, e2⟩
    · exact .inl ⟨p, ys, es, e1, e2, s _ _ e3 e6, e4, e5, e6, e7, e8.keep h.wt h.hT s⟩
    · exact .inr ⟨e1, e2.keep h.wt h.hT s⟩
  have LS : ∀ {x : V} {d : D} {p : Addr} {ys : List V}, RingOr hd T W H x d → x = .ref p → (upd H T (.lst (xs.set n v))) p = some (.lst ys) → ∃ zs, H p = some (.lst zs) := fun hr e h3 => by
    subst e
    rcases hr with ⟨p', ys', es, e1, e2, e3, _⟩ | ⟨e1, e2⟩
    · cases e1; exact ⟨_, e3⟩
    · cases e2.keep h.wt h.hT s T h.wt with
      | lst z n t => cases e1
      | tup z t => rw [z] at h3; cases h3
      | dct z => rw [z] at h3; cases h3
  exact { hT := upd_same, len := by rw [List.length_set, List.length_set, h.len], wh := h.wh, wt := h.wt
          on := fun a ha => by
            by_cases e : a = T
            · exact ⟨_, by rw [e]; exact upd_same⟩
            · obtain ⟨ys, e2⟩ := h.on a ha
              exact ⟨ys, s _ _ e2 e⟩
          nt := h.nt, ns := h.ns
          el := fun i x d hx hd' => by
            rcases set_get hx with ⟨i1, rfl⟩ | ⟨i1, hx'⟩
            · rcases set_get hd' with ⟨i2, rfl⟩ | ⟨i2, hd''⟩
              · exact RK hv
              · exact absurd i1 i2
            · rcases set_get hd' with ⟨i2, rfl⟩ | ⟨i2, hd''⟩
              · exact absurd i2 i1
              · exact RK (h.el i x d hx' hd'')
          nd := fun i j p ys h1 h2 h3 => by
            rcases set_get h1 with ⟨i1, e1⟩ | ⟨i1, h1'⟩
            · rcases set_get h2 with ⟨j1, e2⟩ | ⟨j1, h2'⟩
              · rw [i1, j1]
              · obtain ⟨zs, hz⟩ := LS hv e1.symm h3
                exact absurd h2' (hn p zs e1.symm hz j)
            · obtain ⟨d, hd'⟩ : ∃ d, ds[i]? = some d := ⟨_, List.getElem?_eq_getElem (by rw [← h.len]; exact (List.getElem?_eq_some_iff.mp h1').1)⟩
              obtain ⟨zs, hz⟩ := LS (h.el i _ d h1' hd') rfl h3
              rcases set_get h2 with ⟨j1, e2⟩ | ⟨j1, h2'⟩
              · exact absurd h1' (hn p zs e2.symm hz i)
              · exact h.nd i j p zs h1' h2' hz }
/-- an item of a ring is put anew -/
theorem Th.putR {hd sc T : Addr} {W : Addr → Prop} {H : Hp} {xs : List V} {ds : List D} (h : Th hd sc T W H xs ds) {at' : Nat} {p : Addr} {ys : List V} {es : List D} (hx : xs[at']? = some (.ref p)) (hd' : ds[at']? = some (.lst es)) (hp : H p = some (.lst ys)) (wp : W p) (n1 : p ≠ hd) (n2 : p ≠ T) (le : es.length ≤ 13) (hs : DsSt W H ys es) (n : Nat) {v : V} {e : D} (hv : DSt W H v e) :
    Th hd sc T W (upd H p (.lst (ys.set n v))) xs (ds.set at' (.lst (es.set n e))) := by
  have s : SameB p H (upd H p (.lst (ys.set n v))) := SameB.upd
  exact { hT := s _ _ h.hT (Ne.symm n2), len := by rw [List.length_set, h.len], wh := h.wh, wt := h.wt
          on := fun a ha => by
            by_cases e : a = p
            · exact ⟨_, by rw [e]; exact upd_same⟩
            · obtain ⟨ys, e2⟩ := h.on a ha
              exact ⟨ys, s _ _ e2 e⟩
          nt := h.nt, ns := h.ns
          el := fun i x d hx' hd'' => by
            rcases set_get hd'' with ⟨i2, rfl⟩ | ⟨i2, hd3⟩
            · subst i2
              rw [hx] at hx'
              cases hx'
              exact .inl ⟨p, _, _, rfl, rfl, upd_same, wp, n1, n2, by rw [List.length_set]; exact le, fun a ha => ds_set ((hv.keep wp hp s) a ha) n ((hs.keep wp hp s) a ha)⟩
            · rcases h.el i x d hx' hd3 with ⟨p', ys', es', e1, e2, e3, e4, e5, e6, e7, e8⟩ | ⟨e1, e2⟩
              · have np : p' ≠ p := fun z => by
                  subst e1
                  rw [z] at hx' e3
                  exact i2 (h.nd i at' p ys' hx' hx e3)
                exact .inl ⟨p', ys', es', e1, e2, s _ _ e3 np, e4, e5, e6, e7, e8.keep wp hp s⟩
              · exact .inr ⟨e1, e2.keep wp hp s⟩
          nd := fun i j q zs h1 h2 h3 => by
            by_cases e : q = p
            · subst e; exact h.nd i j q ys h1 h2 hp
            · rw [upd_ne e] at h3
              exact h.nd i j q zs h1 h2 h3 }
/-- one more list that may be written, new -/
theorem Th.more {hd sc T q : Addr} {W : Addr → Prop} {H H' : Hp} {xs : List V} {ds : List D} {zs : List V} (h : Th hd sc T W H xs ds) (hq : H q = none) (s : Same H H') (hq' : H' q = some (.lst zs)) (nsc : q ≠ sc) : Th hd sc T (fun a => W a ∨ a = q) H' xs ds := by
  have g := h.same s
  exact { hT := g.hT, len := g.len, wh := .inl g.wh, wt := .inl g.wt
          on := fun a ha => by
            rcases ha with ha | rfl
            · exact g.on a ha
            · exact ⟨_, hq'⟩
          nt := g.nt, ns := fun z => z.elim g.ns fun e => nsc e.symm
          el := fun i x d hx hd' => by
            rcases h.el i x d hx hd' with ⟨p, ys, es, e1, e2, e3, e4, e5, e6, e7, e8⟩ | ⟨e1, e2⟩
            · refine .inl ⟨p, ys, es, e1, e2, s _ _ e3, .inl e4, e5, e6, e7, fun a ha => ?_⟩
              rcases ha with ha | rfl
              · exact (e8 a ha).same s
              · exact ((e8 T h.wt).fresh hq).same s
            · refine .inr ⟨e1, fun a ha => ?_⟩
              rcases ha with ha | rfl
              · exact (e2 a ha).same s
              · exact ((e2 T h.wt).fresh hq).same s
          nd := g.nd }
theorem cut_to {xs : List V} {n : Int} (h0 : 0 ≤ n) : cutV xs none (some n) = xs.take n.toNat := by
  unfold cutV
  rw [HT.sIx_none, List.drop_zero, Nat.sub_zero]
  obtain ⟨m, rfl⟩ := Int.eq_ofNat_of_zero_le h0
  rw [HT.sIx_nat]
  by_cases hm : m ≤ xs.length
  · rw [Nat.min_eq_left hm]; rfl
  · rw [Nat.min_eq_right (by omega), List.take_length, List.take_of_length_le (by simp; omega)]
theorem ixN_in {n : Nat} {k : Int} (h0 : 0 ≤ k) (h : k < n) : ixN n k = some k.toNat := by
  unfold ixN
  rw [if_pos h0, if_pos h]
theorem atI_in {xs : List V} {n : Int} {x : V} (h0 : 0 ≤ n) (h : xs[n.toNat]? = some x) : atI xs n = some x := by
  have := atI_nat h
  rwa [show ((n.toNat : Nat) : Int) = n by omega] at this
theorem RingOr.here {hd T : Addr} {W : Addr → Prop} {H : Hp} {q : Addr} {d : D} (h : RingOr hd T W H (.ref q) d) (wt : W T) (hq : H q = none) : False := by
  rcases h with ⟨p, ys, es, e1, e2, e3, _⟩ | ⟨e1, e2⟩
  · cases e1; rw [hq] at e3; cases e3
  · cases e2 T wt with
    | lst z n t => rw [hq] at z; cases z
    | tup z t => rw [hq] at z; cases z
    | dct z => rw [hq] at z; cases z
theorem kd_tup' {d : D} (h : d.isTup = true) : ∃ es, d = .tup es := by
  cases d with
  | tup es => exact ⟨es, rfl⟩
  | _ => cases h
def sp_l_spoil : Sp := fun vs H Q _ => ∃ hd sc T W xs ds, vs = [.ref hd, .ref T] ∧ HandAt H hd sc ∧ Th hd sc T W H xs ds ∧ 1 ≤ xs.length ∧ xs.length ≤ 4 ∧ ∀ W' xs' ds' H', HandAt H' hd sc → Th hd sc T W' H' xs' ds' → xs'.length = xs.length → FW W H H' → (∀ s, W s → W' s) → (∀ s, W' s → W s ∨ H s = none) → Q .non H'
theorem sc_l_spoil : FnScope ["_law_hand_here", "_law_rings", "_law_at", "_law_ring_here", "_law_way", "_law_spot"] ["_law_hand_here", "_law_rings"] (defScope s_l_spoil) := ⟨rfl, rfl, rfl, by decide +kernel, rfl, by decide +kernel, by decide +kernel⟩
theorem ok_l_spoil (T : Txt K mg t) : FnOk P w K mg base CX0 5 t.f_l_spoil t.d_l_spoil ["_law_hand_here", "_law_rings"] sp_l_spoil := by
  refine T.l_spoil.F.ok (k := 4) sc_l_spoil (fun vs H Q E h => ?_) (fun cdv A outer s H vs Q E hr h => ?_)
  · obtain ⟨hd, sc, T, W, xs, ds, rfl, _⟩ := h
    rfl
  · obtain ⟨hd, sc, T', W, xs, ds, rfl, hh, th, l1, l4, k⟩ := h
    refine ⟨_, (@pss_cons _ _ _ _ _ (@ps_set _ _ 2 _ _ _ _ sc_l_spoil.nd rfl (Or.inl rfl) (@pe_fn _ _ _ _ _ _ _ _ _ _ _ _ _ _ T.l_draw (ok_l_draw T) hr (by decide) (@pa_cons _ _ _ _ _ (pv 0) (@pa_cons _ _ _ _ _ (@pe_callB _ _ _ _ _ _ _ _ _ call_len_seq (by rfl) T.b_len PySem.boot_len (@pa_cons _ _ _ _ _ (pv 1) (@pa_nil _) star_name) (by decide) (by decide) (by rfl) (by rfl)) (@pa_nil _) star_call) star_name) (by rfl) (by decide) (by rfl) (by rfl)) (by rfl) (by first | exact .inl rfl | exact .inr rfl | assumption)) (@pss_cons _ _ _ _ _ (@ps_set _ _ 3 _ _ _ _ sc_l_spoil.nd rfl (Or.inl rfl) (@pe_ix _ _ _ _ _ _ _ ix_list (pv 1) (pv 2) (fun _ _ => rfl)) (by rfl) (by first | exact .inl rfl | exact .inr rfl | assumption)) (@pss_cons _ _ _ _ _ (@ps_set _ _ 4 _ _ _ _ sc_l_spoil.nd rfl (Or.inl rfl) (@pe_fn _ _ _ _ _ _ _ _ _ _ _ _ _ _ T.l_draw (ok_l_draw T) hr (by decide) (@pa_cons _ _ _ _ _ (pv 0) (@pa_cons _ _ _ _ _ (@pe_int _ _ _ _) (@pa_nil _) star_con) star_name) (by rfl) (by decide) (by rfl) (by rfl)) (by rfl) (by first | exact .inl rfl | exact .inr rfl | assumption)) (@pss_cons _ _ _ _ _ (@ps_if _ _ _ _ _ _ _ _ (PW.pt (@pw_or _ _ _ _ _ _ _ (@pt_not _ _ _ _ (@pt_val _ _ _ (@pe_callB _ _ _ _ _ _ _ _ _ call_isinst (by rfl) T.b_isinstance PyProof.Rows.boot_isinstance (@pa_cons _ _ _ _ _ (pv 3) (@pa_cons _ _ _ _ _ (@pe_ty _ _ _ _ T.b_list PyProof.Rows.boot_list (by rfl) (by decide) (by decide)) (@pa_nil _) star_name) star_name) (by decide) (by decide) (by rfl) (by rfl)) (by intro _; rfl))) (@pw_or1 _ _ _ _ (@pt_cmpR _ _ _ _ _ _ _ _ op_lt (@pe_callB _ _ _ _ _ _ _ _ _ call_len_seq (by rfl) T.b_len PySem.boot_len (@pa_cons _ _ _ _ _ (pv 3) (@pa_nil _) star_name) (by decide) (by decide) (by rfl) (by rfl)) (@pe_int _ _ _ _) (nomark _))))) (@pss_one _ _ _ (@ps_retN _ _)) (@pss_nil _)) (@pss_cons _ _ _ _ _ (@ps_set _ _ 5 _ _ _ _ sc_l_spoil.nd rfl (Or.inl rfl) (@pe_fn _ _ _ _ _ _ _ _ _ _ _ _ _ _ T.l_draw (ok_l_draw T) hr (by decide) (@pa_cons _ _ _ _ _ (pv 0) (@pa_cons _ _ _ _ _ (@pe_callB _ _ _ _ _ _ _ _ _ call_len_seq (by rfl) T.b_len PySem.boot_len (@pa_cons _ _ _ _ _ (pv 3) (@pa_nil _) star_name) (by decide) (by decide) (by rfl) (by rfl)) (@pa_nil _) star_call) star_name) (by rfl) (by decide) (by rfl) (by rfl)) (by rfl) (by first | exact .inl rfl | exact .inr rfl | assumption)) (@pss_one _ _ _ (@ps_if _ _ _ _ _ _ _ _ (@pt_cmpR _ _ _ _ _ _ _ _ op_eq (pv 4) (@pe_int _ _ _ _) (nomark _)) (@pss_one _ _ _ (@ps_asg _ _ _ _ _ _ (@pe_ix _ _ _ _ _ _ _ ix_list (@pe_lst _ _ _ _ (@pa_cons _ _ _ _ _ (@pe_callTy _ _ _ _ _ _ _ _ _ call_tuple_of (by rfl) T.b_tuple PyProof.Rows.boot_tuple (@pa_cons _ _ _ _ _ (pv 3) (@pa_nil _) star_name) (by decide) (by decide) (by rfl) (by rfl)) (@pa_cons _ _ _ _ _ (@pe_non _ _ _) (@pa_cons _ _ _ _ _ (@pe_str _ _ _ _) (@pa_cons _ _ _ _ _ (@pe_int _ _ _ _) (@pa_cons _ _ _ _ _ (pe_disp (pps_cons (@pe_int _ _ _ _) (@pe_ix _ _ _ _ _ _ _ ix_list (pv 3) (@pe_int _ _ _ _) (fun _ _ => rfl)) pps_nil) rfl rfl (by decide) (by decide)) (@pa_nil _) (by rfl)) star_con) star_con) star_con) star_call)) (@pe_fn _ _ _ _ _ _ _ _ _ _ _ _ _ _ T.l_draw (ok_l_draw T) hr (by decide) (@pa_cons _ _ _ _ _ (pv 0) (@pa_cons _ _ _ _ _ (@pe_int _ _ _ _) (@pa_nil _) star_con) star_name) (by rfl) (by decide) (by rfl) (by rfl)) (fun _ _ => rfl)) (@pg_sub _ _ _ _ _ _ _ (pv 1) (pv 2) set_list (by intro _; rfl)) (by rfl) (by rfl) (by rfl))) (@pss_one _ _ _ (@ps_if _ _ _ _ _ _ _ _ (@pt_cmpR _ _ _ _ _ _ _ _ op_eq (pv 4) (@pe_int _ _ _ _) (nomark _)) (@pss_one _ _ _ (@ps_asg _ _ _ _ _ _ (@pe_slice _ _ _ _ _ _ _ _ _ _ sl_list (pv 3) (@po_none _) (@po_some _ _ _ (@pe_fn _ _ _ _ _ _ _ _ _ _ _ _ _ _ T.l_draw (ok_l_draw T) hr (by decide) (@pa_cons _ _ _ _ _ (pv 0) (@pa_cons _ _ _ _ _ (@pe_int _ _ _ _) (@pa_nil _) star_con) star_name) (by rfl) (by decide) (by rfl) (by rfl)))) (@pg_sub _ _ _ _ _ _ _ (pv 1) (pv 2) set_list (by intro _; rfl)) (by rfl) (by rfl) (by rfl))) (@pss_one _ _ _ (@ps_if _ _ _ _ _ _ _ _ (@pt_cmpR _ _ _ _ _ _ _ _ op_eq (pv 4) (@pe_int _ _ _ _) (nomark _)) (@pss_one _ _ _ (@ps_asg _ _ _ _ _ _ (@pe_slice _ _ _ _ _ _ _ _ _ _ sl_list (@pe_op _ _ _ _ _ _ _ _ op_cat (@pe_op _ _ _ _ _ _ _ _ op_cat (@pe_op _ _ _ _ _ _ _ _ op_cat (@pe_op _ _ _ _ _ _ _ _ op_cat (pv 3) (pv 3)) (pv 3)) (pv 3)) (pv 3)) (@po_none _) (@po_some _ _ _ (@pe_int _ _ _ _))) (@pg_sub _ _ _ _ _ _ _ (pv 1) (pv 2) set_list (by intro _; rfl)) (by rfl) (by rfl) (by rfl))) (@pss_one _ _ _ (@ps_if _ _ _ _ _ _ _ _ (@pt_cmpR _ _ _ _ _ _ _ _ op_lt (pv 4) (@pe_int _ _ _ _) (nomark _)) (@pss_one _ _ _ (@ps_if _ _ _ _ _ _ _ _ (PW.pt (@pw_and _ _ _ _ _ _ _ (@pt_val _ _ _ (@pe_callB _ _ _ _ _ _ _ _ _ call_isinst (by rfl) T.b_isinstance PyProof.Rows.boot_isinstance (@pa_cons _ _ _ _ _ (@pe_ix _ _ _ _ _ _ _ ix_list (pv 3) (pv 5) (fun _ _ => rfl)) (@pa_cons _ _ _ _ _ (@pe_ty _ _ _ _ T.b_tuple PyProof.Rows.boot_tuple (by rfl) (by decide) (by decide)) (@pa_nil _) star_name) star_sub) (by decide) (by decide) (by rfl) (by rfl)) (by intro _; rfl)) (@pw_and _ _ _ _ _ _ _ (@pt_cmpR _ _ _ _ _ _ _ _ op_eq (@pe_callB _ _ _ _ _ _ _ _ _ call_len_seq (by rfl) T.b_len PySem.boot_len (@pa_cons _ _ _ _ _ (@pe_ix _ _ _ _ _ _ _ ix_list (pv 3) (pv 5) (fun _ _ => rfl)) (@pa_nil _) star_sub) (by decide) (by decide) (by rfl) (by rfl)) (@pe_int _ _ _ _) (nomark _)) (@pw_and1 _ _ _ _ (@pt_val _ _ _ (@pe_fn _ _ _ _ _ _ _ _ _ _ _ _ _ _ T.l_within (ok_l_within T) hr (by decide) (@pa_cons _ _ _ _ _ (@pe_ix _ _ _ _ _ _ _ ix_list (pv 3) (pv 5) (fun _ _ => rfl)) (@pa_nil _) star_sub) (by rfl) (by decide) (by rfl) (by rfl)) (by intro _; rfl)))))) (@pss_one _ _ _ (@ps_asg _ _ _ _ _ _ (@pe_fn _ _ _ _ _ _ _ _ _ _ _ _ _ _ T.l_no_point (ok_l_no_point T) hr (by decide) (@pa_cons _ _ _ _ _ (pv 0) (@pa_cons _ _ _ _ _ (@pe_ix _ _ _ _ _ _ _ ix_list (pv 3) (pv 5) (fun _ _ => rfl)) (@pa_nil _) star_sub) star_name) (by rfl) (by decide) (by rfl) (by rfl)) (@pg_sub _ _ _ _ _ _ _ (pv 3) (pv 5) set_list (by intro _; rfl)) (by rfl) (by rfl) (by rfl))) (@pss_nil _))) (@pss_one _ _ _ (@ps_if _ _ _ _ _ _ _ _ (PW.pt (@pw_and _ _ _ _ _ _ _ (@pt_cmpR _ _ _ _ _ _ _ _ op_lt (pv 4) (@pe_int _ _ _ _) (nomark _)) (@pw_and1 _ _ _ _ (@pt_cmpR _ _ _ _ _ _ _ _ op_gt (pv 5) (@pe_int _ _ _ _) (nomark _))))) (@pss_one _ _ _ (@ps_asg _ _ _ _ _ _ (@pe_ix _ _ _ _ _ _ _ ix_list (pv 3) (@pe_op _ _ _ _ _ _ _ _ op_sub (pv 5) (@pe_int _ _ _ _)) (fun _ _ => rfl)) (@pg_sub _ _ _ _ _ _ _ (pv 3) (pv 5) set_list (by intro _; rfl)) (by rfl) (by rfl) (by rfl))) (@pss_one _ _ _ (@ps_asg _ _ _ _ _ _ (@pe_ix _ _ _ _ _ _ _ ix_list (pv 3) (@pe_int _ _ _ _) (fun _ _ => rfl)) (@pg_sub _ _ _ _ _ _ _ (pv 3) (@pe_un _ _ _ _ _ _ un_neg (@pe_int _ _ _ _)) set_list (by intro _; rfl)) (by rfl) (by rfl) (by rfl)))))))))))))))))), ?_⟩
    refine st_setG (gv_draw (m := xs.length) hh (pa_c (pu_v rfl) (pa_c (pu_lenL (pa_c (pu_v rfl) pa_n) (SqL.of th.hT)) pa_n)) (by omega) (Bd.small (by omega))) ?_
    rintro _ H1 ⟨⟨n, rfl, n0, n1⟩, hh1, s1⟩
    have th1 := th.draw s1 hh1
    obtain ⟨x, hx⟩ : ∃ x, xs[n.toNat]? = some x := ⟨_, List.getElem?_eq_getElem (by omega)⟩
    obtain ⟨d, hd'⟩ : ∃ d, ds[n.toNat]? = some d := ⟨_, List.getElem?_eq_getElem (by rw [← th.len]; omega)⟩
    refine st_set (pu_ixL (pu_v rfl) (pu_v rfl) (SqL.of th1.hT) (atI_in n0 hx)) ?_
    refine st_setG (gv_draw hh1 (pa_c (pu_v rfl) (pa_c pu_c pa_n)) (by decide) Bd.small) ?_
    rintro _ H2 ⟨⟨w, rfl, w0, w1⟩, hh2, s2⟩
    have th2 := th1.draw s2 hh2
    have F2 : FW W H H2 := (s1.fw th.wh).trans (s2.fw th.wh)
    have KW : ∀ {xs' : List V} {ds' : List D} {H' : Hp}, HandAt H' hd sc → Th hd sc T' W H' xs' ds' → xs'.length = xs.length → FW W H H' → Q .non H' := fun a b c d => k W _ _ _ a b c d (fun _ h => h) (fun _ h => .inl h)
    rcases th2.el _ _ _ hx hd' with ⟨p, ys, es, rfl, rfl, hp, wp, np1, np2, le, hs⟩ | ⟨nl, hs⟩
    case inr =>
      refine st_ifN (b := true) (pt_or (b := true) (c := true) (pt_n (b := false) (pt_b (pu_isi (pa_c (pu_v rfl) (pa_c pu_c pa_n)) (hs _ th2.wt).ty (by rw [kd_lst, nl])))) (fun e => by cases e)) (fun _ => ?_) (fun e => by cases e)
      exact KW hh2 th2 rfl F2
    have ll : ys.length = es.length := (hs _ th2.wt).len
    refine st_ifN (pt_or (b := false) (pt_n (b := true) (pt_b (pu_isi (pa_c (pu_v rfl) (pa_c pu_c pa_n)) (.lst hp) kit_same))) fun _ => pt_t (pu_lt (pu_lenL (pa_c (pu_v rfl) pa_n) (SqL.of hp)) pu_c)) (fun e => KW hh2 th2 rfl F2) fun e => ?_
    have y3 : 3 ≤ ys.length := by simp at e; omega
    refine st_setG (gv_draw (m := ys.length) hh2 (pa_c (pu_v rfl) (pa_c (pu_lenL (pa_c (pu_v rfl) pa_n) (SqL.of hp)) pa_n)) (by omega) (Bd.small (by omega))) ?_
    rintro _ H3 ⟨⟨m, rfl, m0, m1⟩, hh3, s3⟩
    have th3 := th2.draw s3 hh3
    obtain ⟨zs2, hz2⟩ := hh2.ls
    have hp3 := s3 _ _ hp np1
    have hs3 := hs.keep th2.wh hz2 s3
    have F3 : FW W H H3 := F2.trans (s3.fw th.wh)
    have hT3 := th3.hT
    have hsc : T' ≠ sc := fun e => th.ns (e ▸ th.wt)
    have psc : p ≠ sc := fun e => th.ns (e ▸ wp)
    -- a ring's item, put anew
    have PR : ∀ {H4 : Hp} {v : V} {e : D} {j : Nat}, HandAt H4 hd sc → Th hd sc T' W H4 xs ds → H4 p = some (.lst ys) → DsSt W H4 ys es → FW W H H4 → DSt W H4 v e → Q .non (upd H4 p (.lst (ys.set j v))) := fun {H4 v e j} hh4 th4 hp4 hs4 F4 hv =>
      KW (hh4.upd ⟨np1, psc⟩) (th4.putR hx hd' hp4 wp np1 np2 le hs4 j hv) rfl (F4.trans (SameB.upd.fw wp))
    -- a new ring
    have PL : ∀ {te : TE}, Gv te [some (.ref hd), some (.ref T'), some (.int n), some (.ref p), some (.int w), some (.int m)] H3 (fun v H5 => ∃ (q : Addr) (zs : List V) (es' : List D) (H4 : Hp), v = .ref q ∧ HandAt H4 hd sc ∧ Th hd sc T' W H4 xs ds ∧ FW W H H4 ∧ H4 q = none ∧ H5 = upd H4 q (.lst zs) ∧ DsSt W H4 zs es' ∧ es'.length ≤ 13) → ∀ {En : Ends}, (En.nx = fun σ H' => Q .non H') → tAsg te (gSub (tVar 1) (tVar 2) rSetL) En [some (.ref hd), some (.ref T'), some (.int n), some (.ref p), some (.int w), some (.int m)] H3 := fun {te} hg {En} hE => by
      refine st_putG1 (p := T') (k := n) hg ?_
      rintro _ _ ⟨q, zs, es', H4, rfl, hh4, th4, F4, hq, rfl, hz, hle⟩
      have sq : Same H4 (upd H4 q (.lst zs)) := Same.upd hq
      have th5 := th4.more hq sq upd_same (hh4.fresh hq).2
      refine ⟨pu_v rfl, pu_v rfl, xs, n.toNat, th5.hT, ixN_in n0 (by omega), ?_⟩
      rw [hE]
      have nqT : q ≠ T' := Ne.symm (ne_of_none th4.hT hq)
      have hH : H q = none := by
        cases c : H q with
        | none => rfl
        | some o =>
          by_cases wq : W q
          · obtain ⟨_, z⟩ := th4.on q wq
            rw [hq] at z; cases z
          · have := F4 _ _ c wq
            rw [hq] at this; cases this
      refine k (fun a => W a ∨ a = q) _ _ _ ((hh4.same sq).upd ⟨th4.nt, hsc⟩) (th5.put n.toNat (d0 := .lst es') (.inl ⟨q, zs, es', rfl, rfl, upd_same, .inr rfl, (hh4.fresh hq).1, nqT, hle, fun a ha => ?_⟩) (fun p' ys' e hp' j hj => ?_)) (by rw [List.length_set]) ((F4.trans sq.fw).trans (SameB.upd.fw th.wt)) (fun _ h => .inl h) (fun a ha => ha.elim .inl fun e => .inr (by rw [e]; exact hH))
      · rcases ha with ha | rfl
        · exact (hz a ha).same sq
        · exact ((hz _ th.wt).fresh hq).same sq
      · cases e
        obtain ⟨dj, hdj⟩ : ∃ d, ds[j]? = some d := ⟨_, List.getElem?_eq_getElem (by rw [← th.len]; exact (List.getElem?_eq_some_iff.mp hj).1)⟩
        exact (th4.el j _ dj hj hdj).here th.wt hq
    obtain ⟨y, hy⟩ : ∃ y, ys[m.toNat]? = some y := ⟨_, List.getElem?_eq_getElem (by omega)⟩
    obtain ⟨e0, he0⟩ : ∃ e, es[m.toNat]? = some e := ⟨_, List.getElem?_eq_getElem (by omega)⟩
    have GD : ∀ {H4 : Hp} {j : Nat} {y : V} {e : D}, DsSt W H4 ys es → ys[j]? = some y → es[j]? = some e → DSt W H4 y e := fun hs4 h1 h2 a ha => by
      obtain ⟨e', h3, r⟩ := (hs4 a ha).get h1
      rw [h2] at h3
      cases h3
      exact r
    obtain ⟨y0, hy0⟩ : ∃ y, ys[0]? = some y := ⟨_, List.getElem?_eq_getElem (by omega)⟩
    obtain ⟨f0, hf0⟩ : ∃ e, es[0]? = some e := ⟨_, List.getElem?_eq_getElem (by omega)⟩
    refine st_if1 (pt_t (pu_eqI (pu_v rfl) pu_c)) (fun _ => ?_) fun _ => ?_
    · refine st_putG1 (p := T') (k := n) (R := fun v H4 => ∃ d0, isLst d0 = false ∧ DSt W H4 v d0 ∧ HandAt H4 hd sc ∧ Th hd sc T' W H4 xs ds ∧ FW W H H4) (fun Q g => ?_) ?_
      · dsimp only [tOp]
        refine gv_lstS (S := W) (ds := [.tup es, .non, .str (Str.ofString "ring"), .int 3, .dct]) (as_c (fun H' s Q q => (pa_c (pu_v rfl) pa_n : PuA (tCons (tVar 3) tNil) _ _ [.ref p]) _ ⟨p, ys, rfl, .inl ⟨SqL.of (s _ _ hp3), fun l hl => q _ _ ⟨Same.upd hl, fun a ha => .tup upd_same ((hs3 a ha).same (s.trans (Same.upd hl)))⟩⟩⟩) (as_c es_n (as_c (es_s ⟨by decide +kernel, by decide +kernel⟩) (as_c es_i (as_c (es_disp (kvs := [(.inl 0, y0)]) (by intro H' Q s q; exact pu_ixL (pu_v rfl) pu_c (SqL.of (s _ _ hp3)) (atI_nat (j := 0) hy0) _ q) (by show 1 ≤ 15; decide)) as_n))))) (by show 5 ≤ 1000; decide) _ ?_
        rintro _ H4 ⟨q4, xs4, rfl, hq4, s4, hq4', l4', t4⟩
        have hh4 := hh3.same s4
        obtain ⟨zs4, hz4⟩ := hh4.ls
        refine gv_draw (m := 5) hh4 (pa_c (pu_v rfl) (pa_c pu_c pa_n)) (by decide) Bd.small _ ?_
        rintro _ H5 ⟨⟨i, rfl, i0, i1⟩, hh5, s5⟩
        have th4 := th3.same s4
        have th5 := th4.draw s5 hh5
        have t5 := t4.keep th.wh hz4 s5
        have hq5 := s5 _ _ hq4' (hh3.fresh hq4).1
        obtain ⟨d0, hd0⟩ : ∃ d0, ([.tup es, .non, .str (Str.ofString "ring"), .int 3, .dct] : List D)[i.toNat]? = some d0 := ⟨_, List.getElem?_eq_getElem (show i.toNat < 5 by omega)⟩
        obtain ⟨v, hv, _⟩ := (t5 _ th.wt).get' hd0
        refine ⟨q4, xs4, i, v, rfl, rfl, SqL.of hq5, atI_in i0 hv, g _ _ ⟨d0, ?_, fun a ha => ?_, hh5, th5, (F3.trans s4.fw).trans (s5.fw th.wh)⟩⟩
        · have := List.mem_of_getElem? hd0
          simp only [List.mem_cons, List.not_mem_nil, or_false] at this
          rcases this with rfl | rfl | rfl | rfl | rfl <;> rfl
        · obtain ⟨v', hv', r⟩ := (t5 a ha).get' hd0
          rw [hv] at hv'
          cases hv'
          exact r
      · rintro v H4 ⟨d0, nl, dv, hh4, th4, F4⟩
        refine ⟨pu_v rfl, pu_v rfl, xs, n.toNat, th4.hT, ixN_in n0 (by omega), ?_⟩
        refine KW (hh4.upd ⟨th4.nt, hsc⟩) (th4.put n.toNat (.inr ⟨nl, dv⟩) (fun p' ys' e hp' j hj => ?_)) (by rw [List.length_set]) (F4.trans (SameB.upd.fw th4.wt))
        subst e
        cases dv _ th.wt with
        | lst z n t => cases nl
        | tup z t => rw [z] at hp'; cases hp'
        | dct z => rw [z] at hp'; cases hp'
    refine st_if1 (pt_t (pu_eqI (pu_v rfl) pu_c)) (fun _ => ?_) fun _ => ?_
    · refine PL (fun Q g => ?_) rfl
      dsimp only [tSl, tNoPart, tPart]
      refine pu_v (v := .ref p) rfl _ ?_
      refine gv_draw (m := 3) hh3 (pa_c (pu_v rfl) (pa_c pu_c pa_n)) (by decide) Bd.small _ ?_
      rintro _ H4 ⟨⟨i, rfl, i0, i1⟩, hh4, s4⟩
      obtain ⟨zs3, hz3⟩ := hh3.ls
      refine ⟨i, rfl, p, ys, rfl, SqL.of (s4 _ _ hp3 np1), fun q hq => ?_⟩
      rw [cut_to i0]
      exact g _ _ ⟨q, _, es.take i.toNat, H4, rfl, hh4, th3.draw s4 hh4, F3.trans (s4.fw th.wh), hq, rfl, fun a ha => ds_take _ ((hs3.keep th.wh hz3 s4) a ha), by rw [List.length_take]; omega⟩
    refine st_if1 (pt_t (pu_eqI (pu_v rfl) pu_c)) (fun _ => ?_) fun _ => ?_
    · refine PL (fun Q g => ?_) rfl
      dsimp only [tSl, tNoPart, tPart, tOp, tC]
      refine pu_v (v := .ref p) rfl _ (pu_v (v := .ref p) rfl _ ⟨p, p, ys, ys, rfl, rfl, hp3, hp3, Nat.le_trans (show _ ≤ 1000 by omega) (by decide), fun q1 hq1 => ?_⟩)
      have t1 : Same H3 (upd H3 q1 (.lst (ys ++ ys))) := Same.upd hq1
      refine pu_v (v := .ref p) rfl _ ⟨q1, p, _, ys, rfl, rfl, upd_same, t1 _ _ hp3, Nat.le_trans (show _ ≤ 1000 by rw [List.length_append]; omega) (by decide), fun q2 hq2 => ?_⟩
      have t2 := Same.upd (o := .lst (ys ++ ys ++ ys)) hq2
      refine pu_v (v := .ref p) rfl _ ⟨q2, p, _, ys, rfl, rfl, upd_same, (t1.trans t2) _ _ hp3, Nat.le_trans (show _ ≤ 1000 by simp only [List.length_append]; omega) (by decide), fun q3 hq3 => ?_⟩
      have t3 := Same.upd (o := .lst (ys ++ ys ++ ys ++ ys)) hq3
      refine pu_v (v := .ref p) rfl _ ⟨q3, p, _, ys, rfl, rfl, upd_same, (t1.trans (t2.trans t3)) _ _ hp3, Nat.le_trans (show _ ≤ 1000 by simp only [List.length_append]; omega) (by decide), fun q4 hq4 => ?_⟩
      have t4 := Same.upd (o := .lst (ys ++ ys ++ ys ++ ys ++ ys)) hq4
      refine ⟨13, rfl, q4, _, rfl, SqL.of upd_same, fun q hq => ?_⟩
      rw [cut_to (by decide)]
      have tt := t1.trans (t2.trans (t3.trans t4))
      have hsT := hs3.same tt
      exact g _ _ ⟨q, _, (es ++ es ++ es ++ es ++ es).take 13, _, rfl, hh3.same tt, th3.same tt, F3.trans tt.fw, hq, rfl, fun a ha => ds_take _ (ds_app (ds_app (ds_app (ds_app (hsT a ha) (hsT a ha)) (hsT a ha)) (hsT a ha)) (hsT a ha)), by rw [List.length_take]; omega⟩
    have IY : ∀ {H4 : Hp}, Same H3 H4 → Pu (tOp (rIxL K) (tVar 3) (tVar 5)) [some (.ref hd), some (.ref T'), some (.int n), some (.ref p), some (.int w), some (.int m)] H4 y := fun s => pu_ixL (pu_v rfl) (pu_v rfl) (SqL.of (s _ _ hp3)) (atI_in m0 hy)
    refine st_if1 (pt_t (pu_lt (pu_v rfl) pu_c)) (fun _ => ?_) fun _ => ?_
    · have dy := GD hs3 hy he0
      by_cases ht : e0.isTup = true
      case neg =>
        have ht' : e0.isTup = false := by simpa using ht
        refine st_ifN1 (b := false) (pt_and (b := false) (c := true) (pt_b (pu_isi (pa_c (IY Same.rfl') (pa_c pu_c pa_n)) (dy _ th.wt).ty (by rw [kd_tup, ht']))) (fun e => by cases e)) (fun e => by cases e) fun _ => ?_
        exact KW hh3 th3 rfl F3
      obtain ⟨fs, rfl⟩ := kd_tup' ht
      have dyT := dy _ th.wt
      cases dyT with
      | @tup a zs _ ha ta =>
        refine st_ifNG1 (R := fun b H4 => Same H3 H4 ∧ (b = true → ∃ ns, lpL (.tup fs) = some ns)) (gt_and (R := fun b H4 => H4 = H3) (PuT.gt (pt_b (b := true) (pu_isi (pa_c (IY Same.rfl') (pa_c pu_c pa_n)) (.tup ha) kit_same)) rfl) (fun H4 r => ?_) (fun H4 r => ⟨by rw [r]; exact Same.rfl', fun e => by cases e⟩)) (fun H4 r => ?_) (fun H4 r => KW (hh3.same r.1) (th3.same r.1) rfl (F3.trans r.1.fw))
        · subst r
          refine gt_and (R := fun b H5 => H5 = H4) (PuT.gt (pt_t (pu_eqI (pu_lenT (pa_c (IY Same.rfl') pa_n) (SqT.of ha)) pu_c)) rfl) (fun H5 r => ?_) (fun H5 r => ⟨by rw [r]; exact Same.rfl', fun e => by cases e⟩)
          subst r
          refine (gt_b (R := fun v H' => v = .bl (lpL (.tup fs)).isSome ∧ Same H5 H') (gv_call (pa_c (IY Same.rfl') pa_n) fun Q q => ⟨_, _, _, rfl, dy _ th.wt, fun H' s => q _ _ ⟨rfl, s⟩⟩) (fun v H' r => ⟨_, r.1⟩)).imp fun b H' r => ⟨r.2, fun e => ?_⟩
          subst e
          have := r.1
          cases q : lpL (.tup fs) with
          | none => rw [q] at this; cases this
          | some ns => exact ⟨ns, rfl⟩
        · obtain ⟨s4, r4⟩ := r
          obtain ⟨ns, hns⟩ := r4 rfl
          have hh4 := hh3.same s4
          have th4 := th3.same s4
          refine st_putG1 (p := p) (k := m) (R := fun v H5 => ∃ d, (∀ s, H4 s ≠ none → DAt s H5 v d) ∧ HandAt H5 hd sc ∧ SameB hd H4 H5) (gv_call (pa_c (pu_v rfl) (pa_c (IY s4) pa_n)) fun Q q => ⟨hd, sc, _, ns, rfl, hh4, tup_of_lp ((dy _ th.wt).same s4) hns, (lpL_some hns).2, fun r d H' a b c e => q _ _ ⟨d, a, c, e⟩⟩) ?_
          rintro v H5 ⟨d5, dv, hh5, s5⟩
          obtain ⟨zs4, hz4⟩ := hh4.ls
          have hp5 := s5 _ _ (s4 _ _ hp3) np1
          refine ⟨pu_v rfl, pu_v rfl, ys, m.toNat, hp5, ixN_in m0 (by omega), ?_⟩
          exact PR hh5 (th4.draw s5 hh5) hp5 ((hs3.same s4).keep th.wh hz4 s5) ((F3.trans s4.fw).trans (s5.fw th.wh)) (fun a ha => dv a fun z => by
            obtain ⟨_, e⟩ := th4.on a ha
            rw [z] at e; cases e)
    refine st_if1 (pt_and (pt_t (pu_lt (pu_v rfl) pu_c)) fun _ => pt_t (pu_gt (pu_v rfl) pu_c)) (fun e => ?_) fun _ => ?_
    · have mp : 0 < m := by simp at e; omega
      obtain ⟨y1, hy1⟩ : ∃ y, ys[(m - 1).toNat]? = some y := ⟨_, List.getElem?_eq_getElem (by omega)⟩
      obtain ⟨f1, hf1⟩ : ∃ e, es[(m - 1).toNat]? = some e := ⟨_, List.getElem?_eq_getElem (by omega)⟩
      refine st_put1 (p := p) (pu_ixL (pu_v rfl) (pu_sub (pu_v rfl) pu_c) (SqL.of hp3) (atI_in (by omega) hy1)) (pu_v rfl) (pu_v rfl) hp3 (ixN_in m0 (by omega)) ?_
      exact PR hh3 th3 hp3 hs3 F3 (GD hs3 hy1 hf1)
    · refine st_put1 (p := p) (j := ys.length - 1) (pu_ixL (pu_v rfl) pu_c (SqL.of hp3) (atI_nat (j := 0) hy0)) (pu_v rfl) (pu_neg pu_c) hp3 ?_ ?_
      · unfold ixN
        rw [if_neg (by decide), if_pos (by omega)]
        congr 1
        omega
      · exact PR hh3 th3 hp3 hs3 F3 (GD hs3 hy0 hf0)
theorem badAt_some {ps : List (Option (List Int))} {m : Nat} (h : badAt ps m = false) : ∃ ms, ps[m]? = some (some ms) := by
  unfold badAt at h
  split at h
  · rename_i p q; exact ⟨p, q⟩
  · cases h
theorem pt_chLE {σ : L2.St} {H : Hp} {ta tb tc : TE} {i j k : Int} (ha : Pu ta σ H (.int i)) (hb : Pu tb σ H (.int j)) (hc : Pu tc σ H (.int k)) : PuT (tTest (tChain (rI0 fun i j => .bl (decide (i ≤ j))) (rI0 fun i j => .bl (decide (i ≤ j))) ta tb tc)) σ H (decide (i ≤ j) && decide (j ≤ k)) := pt_t (pu_chLE ha hb hc)
def sp_l_fault : Sp := fun vs H Q _ => ∃ (hd : Addr) (v : V) (d : D), vs = [v] ∧ DAt hd H v d ∧ ∀ r H', Same H H' → RefD H' d r → Q r H'
theorem sc_l_fault : FnScope ["_law_thing", "_law_k", "_law_ring_here", "_law_j"] ["_law_thing"] (defScope s_l_fault) := ⟨rfl, rfl, rfl, by decide +kernel, rfl, by decide +kernel, by decide +kernel⟩
theorem ok_l_fault (T : Txt K mg t) : FnOk P w K mg base CX0 4 t.f_l_fault t.d_l_fault ["_law_thing"] sp_l_fault := by
  refine T.l_fault.F.ok (k := 3) sc_l_fault (fun vs H Q E h => ?_) (fun cdv A outer s H vs Q E hr h => ?_)
  · obtain ⟨hd, v, d, rfl, _⟩ := h
    rfl
  · obtain ⟨hd, v, d, rfl, hv, k⟩ := h
    refine ⟨_, (@pss_cons _ _ _ _ _ (@ps_if _ _ _ _ _ _ _ _ (PW.pt (@pw_or _ _ _ _ _ _ _ (@pt_not _ _ _ _ (@pt_val _ _ _ (@pe_callB _ _ _ _ _ _ _ _ _ call_isinst (by rfl) T.b_isinstance PyProof.Rows.boot_isinstance (@pa_cons _ _ _ _ _ (pv 0) (@pa_cons _ _ _ _ _ (@pe_ty _ _ _ _ T.b_list PyProof.Rows.boot_list (by rfl) (by decide) (by decide)) (@pa_nil _) star_name) star_name) (by decide) (by decide) (by rfl) (by rfl)) (by intro _; rfl))) (@pw_or1 _ _ _ _ (@pt_not _ _ _ _ (@pt_chain _ _ _ _ _ _ _ _ _ _ _ _ op_le op_le (@pe_int _ _ _ _) (@pe_callB _ _ _ _ _ _ _ _ _ call_len_seq (by rfl) T.b_len PySem.boot_len (@pa_cons _ _ _ _ _ (pv 0) (@pa_nil _) star_name) (by decide) (by decide) (by rfl) (by rfl)) (@pe_int _ _ _ _) (by with_unfolding_all rfl)))))) (@pss_one _ _ _ (@ps_ret _ _ _ _ (@pe_tup _ _ _ _ _ (@pa_cons _ _ _ _ _ (@pe_int _ _ _ _) (@pa_cons _ _ _ _ _ (@pe_int _ _ _ _) (@pa_nil _) star_con) star_con)))) (@pss_nil _)) (@pss_cons _ _ _ _ _ (@ps_for _ _ _ _ _ _ _ _ PassesOwn.never rfl (@pi_range1 _ _ _ _ _ _ rfl T.b_range (@pa_cons _ _ _ _ _ (@pe_callB _ _ _ _ _ _ _ _ _ call_len_seq (by rfl) T.b_len PySem.boot_len (@pa_cons _ _ _ _ _ (pv 0) (@pa_nil _) star_name) (by decide) (by decide) (by rfl) (by rfl)) (@pa_nil _) star_call) (by rfl)) (@pg_name _ _ 1 _ sc_l_fault.nd rfl (Or.inl rfl) (by first | exact .inl rfl | exact .inr rfl | assumption)) (@pss_cons _ _ _ _ _ (@ps_set _ _ 2 _ _ _ _ sc_l_fault.nd rfl (Or.inl rfl) (@pe_ix _ _ _ _ _ _ _ ix_list (pv 0) (pv 1) (fun _ _ => rfl)) (by rfl) (by first | exact .inl rfl | exact .inr rfl | assumption)) (@pss_cons _ _ _ _ _ (@ps_if _ _ _ _ _ _ _ _ (PW.pt (@pw_or _ _ _ _ _ _ _ (@pt_not _ _ _ _ (@pt_val _ _ _ (@pe_callB _ _ _ _ _ _ _ _ _ call_isinst (by rfl) T.b_isinstance PyProof.Rows.boot_isinstance (@pa_cons _ _ _ _ _ (pv 2) (@pa_cons _ _ _ _ _ (@pe_ty _ _ _ _ T.b_list PyProof.Rows.boot_list (by rfl) (by decide) (by decide)) (@pa_nil _) star_name) star_name) (by decide) (by decide) (by rfl) (by rfl)) (by intro _; rfl))) (@pw_or1 _ _ _ _ (@pt_not _ _ _ _ (@pt_chain _ _ _ _ _ _ _ _ _ _ _ _ op_le op_le (@pe_int _ _ _ _) (@pe_callB _ _ _ _ _ _ _ _ _ call_len_seq (by rfl) T.b_len PySem.boot_len (@pa_cons _ _ _ _ _ (pv 2) (@pa_nil _) star_name) (by decide) (by decide) (by rfl) (by rfl)) (@pe_int _ _ _ _) (by with_unfolding_all rfl)))))) (@pss_one _ _ _ (@ps_ret _ _ _ _ (@pe_tup _ _ _ _ _ (@pa_cons _ _ _ _ _ (pv 1) (@pa_cons _ _ _ _ _ (@pe_int _ _ _ _) (@pa_nil _) star_con) star_name)))) (@pss_nil _)) (@pss_cons _ _ _ _ _ (@ps_for _ _ _ _ _ _ _ _ PassesOwn.never rfl (@pi_range1 _ _ _ _ _ _ rfl T.b_range (@pa_cons _ _ _ _ _ (@pe_callB _ _ _ _ _ _ _ _ _ call_len_seq (by rfl) T.b_len PySem.boot_len (@pa_cons _ _ _ _ _ (pv 2) (@pa_nil _) star_name) (by decide) (by decide) (by rfl) (by rfl)) (@pa_nil _) star_call) (by rfl)) (@pg_name _ _ 3 _ sc_l_fault.nd rfl (Or.inl rfl) (by first | exact .inl rfl | exact .inr rfl | assumption)) (@pss_one _ _ _ (@ps_if _ _ _ _ _ _ _ _ (PW.pt (@pw_or _ _ _ _ _ _ _ (@pt_not _ _ _ _ (@pt_val _ _ _ (@pe_fn _ _ _ _ _ _ _ _ _ _ _ _ _ _ T.l_within (ok_l_within T) hr (by decide) (@pa_cons _ _ _ _ _ (@pe_ix _ _ _ _ _ _ _ ix_list (pv 2) (pv 3) (fun _ _ => rfl)) (@pa_nil _) star_sub) (by rfl) (by decide) (by rfl) (by rfl)) (by intro _; rfl))) (@pw_or1 _ _ _ _ (PW.pt (@pw_and _ _ _ _ _ _ _ (@pt_cmpR _ _ _ _ _ _ _ _ op_gt (pv 3) (@pe_int _ _ _ _) (nomark _)) (@pw_and1 _ _ _ _ (@pt_cmpR _ _ _ _ _ _ _ _ (op_eqTI hr.units) (@pe_ix _ _ _ _ _ _ _ ix_list (pv 2) (pv 3) (fun _ _ => rfl)) (@pe_ix _ _ _ _ _ _ _ ix_list (pv 2) (@pe_op _ _ _ _ _ _ _ _ op_sub (pv 3) (@pe_int _ _ _ _)) (fun _ _ => rfl)) (nomark _)))))))) (@pss_one _ _ _ (@ps_ret _ _ _ _ (@pe_tup _ _ _ _ _ (@pa_cons _ _ _ _ _ (pv 1) (@pa_cons _ _ _ _ _ (pv 3) (@pa_nil _) star_name) star_name)))) (@pss_nil _))) (by intro _; rfl)) (@pss_one _ _ _ (@ps_if _ _ _ _ _ _ _ _ (@pt_cmpR _ _ _ _ _ _ _ _ (op_eqTI hr.units) (@pe_ix _ _ _ _ _ _ _ ix_list (pv 2) (@pe_int _ _ _ _) (fun _ _ => rfl)) (@pe_ix _ _ _ _ _ _ _ ix_list (pv 2) (@pe_un _ _ _ _ _ _ un_neg (@pe_int _ _ _ _)) (fun _ _ => rfl)) (nomark _)) (@pss_one _ _ _ (@ps_ret _ _ _ _ (@pe_tup _ _ _ _ _ (@pa_cons _ _ _ _ _ (pv 1) (@pa_cons _ _ _ _ _ (@pe_op _ _ _ _ _ _ _ _ op_sub (@pe_callB _ _ _ _ _ _ _ _ _ call_len_seq (by rfl) T.b_len PySem.boot_len (@pa_cons _ _ _ _ _ (pv 2) (@pa_nil _) star_name) (by decide) (by decide) (by rfl) (by rfl)) (@pe_int _ _ _ _)) (@pa_nil _) star_bin) star_name)))) (@pss_nil _)))))) (by intro _; rfl)) (@pss_one _ _ _ (@ps_ret _ _ _ _ (@pe_non _ _ _))))), ?_⟩
    have RT : ∀ {σ : L2.St} {H' : Hp} {En : Ends} {ta tb : TE} {a b : Nat}, Pu ta σ H' (.int a) → Pu tb σ H' (.int b) → layF d = some (a, b) → Same H H' → En.rt = Q → tRet (tTup (tCons ta (tCons tb tNil))) En σ H' := fun {σ H' En ta tb a b} h1 h2 e s er => by
      refine st_retG (gv_tup (pa_c h1 (pa_c h2 pa_n)) (by show 2 ≤ sizeLine; decide)) ?_
      rintro _ _ ⟨p, hp, rfl, rfl⟩
      rw [er]
      exact k _ _ (s.trans (Same.upd hp)) (by unfold RefD; rw [e]; exact TupT.of (ns := [(a : Int), (b : Int)]) upd_same)
    by_cases hL : isLst d = true
    case neg =>
      have e0 : isLst d = false := by simpa using hL
      refine st_ifN (b := true) (pt_or (b := true) (c := true) (pt_n (b := false) (pt_b (pu_isi (pa_c (pu_v rfl) (pa_c pu_c pa_n)) hv.ty (by rw [kd_lst, e0])))) (fun e => by cases e)) (fun _ => ?_) (fun e => by cases e)
      exact RT (a := 0) (b := 0) pu_c pu_c (by cases d <;> first | rfl | cases e0) Same.rfl' rfl
    cases hv with
    | @lst l xs ds hl nl td =>
      have ll := td.len
      refine st_ifN (pt_or (b := false) (pt_n (b := true) (pt_b (pu_isi (pa_c (pu_v rfl) (pa_c pu_c pa_n)) (.lst hl) kit_same))) fun _ => pt_n (pt_chLE pu_c (pu_lenL (pa_c (pu_v rfl) pa_n) (SqL.of hl)) pu_c)) (fun e => ?_) fun e => ?_
      · refine RT (a := 0) (b := 0) pu_c pu_c ?_ Same.rfl' rfl
        show (if 1 ≤ ds.length ∧ ds.length ≤ 4 then firstF 0 ds else some (0, 0)) = some (0, 0)
        rw [if_neg]
        intro h
        rw [ll] at e
        simp at e
        omega
      have e2 : 1 ≤ ds.length ∧ ds.length ≤ 4 := by
        rw [ll] at e
        simp at e
        omega
      have e3 : layF (.lst ds) = firstF 0 ds := by
        show (if 1 ≤ ds.length ∧ ds.length ≤ 4 then firstF 0 ds else some (0, 0)) = _
        rw [if_pos e2]
      refine st_rangeG (ga_pu (pa_c (pu_lenL (pa_c (pu_v rfl) pa_n) (SqL.of hl)) pa_n)) ?_
      rintro _ H0 ⟨rfl, e⟩
      have e := e.symm
      subst e
      refine ⟨_, rfl, by omega, by omega, fun i σ H' => Same H H' ∧ (∃ a b c : Option V, σ = [some (.ref l), a, b, c]) ∧ ∀ j < i, ∀ d', ds[j]? = some d' → ringF d' = none, ⟨Same.rfl', ⟨_, _, _, rfl⟩, fun j h => absurd h (Nat.not_lt_zero _)⟩, ?_, ?_⟩
      · rintro i σ H' hi ⟨s', ⟨c1, c2, c3, rfl⟩, hj⟩
        have hi' : i < xs.length := by omega
        obtain ⟨x, ex⟩ : ∃ x, xs[i]? = some x := ⟨_, List.getElem?_eq_getElem hi'⟩
        obtain ⟨di, hdi, hx⟩ := td.get ex
        have hx' := hx.same s'
        refine st_set (pu_ixL (pu_v rfl) (pu_v rfl) (SqL.of (s' _ _ hl)) (by rw [Int.zero_add]; exact atI_nat ex)) ?_
        have LF : ∀ {j : Nat}, ringF di = some j → layF (.lst ds) = some (i, j) := fun {j} h => by rw [e3, firstF_at hdi hj h, Nat.zero_add]
        have kI : ∀ {σ : L2.St} {H' : Hp}, σ[1]? = some (some (.int (0 + (i : Int)))) → Pu (tVar 1) σ H' (.int (i : Nat)) := fun h => by rw [Int.zero_add] at h; exact pu_v h
        by_cases hL2 : isLst di = true
        case neg =>
          have e0 : isLst di = false := by simpa using hL2
          refine st_ifN (b := true) (pt_or (b := true) (c := true) (pt_n (b := false) (pt_b (pu_isi (pa_c (pu_v rfl) (pa_c pu_c pa_n)) hx'.ty (by rw [kd_lst, e0])))) (fun e => by cases e)) (fun _ => ?_) (fun e => by cases e)
          exact RT (a := i) (b := 0) (kI rfl) pu_c (LF (by cases di <;> first | rfl | cases e0)) s' rfl
        cases hx' with
        | @lst l2 xs2 es hl2 nl2 td2 =>
          have ll2 := td2.len
          refine st_ifN (pt_or (b := false) (pt_n (b := true) (pt_b (pu_isi (pa_c (pu_v rfl) (pa_c pu_c pa_n)) (.lst hl2) kit_same))) fun _ => pt_n (pt_chLE pu_c (pu_lenL (pa_c (pu_v rfl) pa_n) (SqL.of hl2)) pu_c)) (fun e => ?_) fun e => ?_
          · refine RT (a := i) (b := 0) (kI rfl) pu_c (LF ?_) s' rfl
            show (if 3 ≤ es.length ∧ es.length ≤ 12 then rf (es.map lpL) else some 0) = some 0
            rw [if_neg]
            intro h
            rw [ll2] at e
            simp at e
            omega
          have f2 : 3 ≤ es.length ∧ es.length ≤ 12 := by
            rw [ll2] at e
            simp at e
            omega
          have f3 : ringF (.lst es) = rf (es.map lpL) := by
            show (if 3 ≤ es.length ∧ es.length ≤ 12 then rf (es.map lpL) else some 0) = _
            rw [if_pos f2]
          have pl : (es.map lpL).length = es.length := List.length_map _
          have PT : ∀ {m : Nat} {y : V} {H1 : Hp} {ms : List Int}, xs2[m]? = some y → (es.map lpL)[m]? = some (some ms) → Same H' H1 → TupT H1 y ms := fun {m y H1 ms} hy hm s => by
            obtain ⟨dm, hdm, hyD⟩ := td2.get hy
            rw [List.getElem?_map, hdm] at hm
            exact tup_of_lp (hyD.same s) (Option.some.inj hm)
          refine st_rangeG (ga_pu (pa_c (pu_lenL (pa_c (pu_v rfl) pa_n) (SqL.of hl2)) pa_n)) ?_
          rintro _ H0 ⟨rfl, e⟩
          have e := e.symm
          subst e
          refine ⟨_, rfl, by omega, by omega, fun j σ H1 => Same H' H1 ∧ (∃ c : Option V, σ = [some (.ref l), some (.int (0 + (i : Int))), some (.ref l2), c]) ∧ ∀ m < j, badAt (es.map lpL) m = false, ⟨Same.rfl', ⟨_, rfl⟩, fun j h => absurd h (Nat.not_lt_zero _)⟩, ?_, ?_⟩
          · rintro j σ H1 hjl ⟨s1, ⟨c, rfl⟩, hb⟩
            have hjl' : j < xs2.length := by omega
            obtain ⟨y, ey⟩ : ∃ y, xs2[j]? = some y := ⟨_, List.getElem?_eq_getElem hjl'⟩
            obtain ⟨dj, hdj, hy⟩ := td2.get ey
            have pj : (es.map lpL)[j]? = some (lpL dj) := by rw [List.getElem?_map, hdj]; rfl
            have jI : ∀ {σ : L2.St} {H' : Hp}, σ[3]? = some (some (.int (0 + (j : Int)))) → Pu (tVar 3) σ H' (.int (j : Nat)) := fun h => by rw [Int.zero_add] at h; exact pu_v h
            have IJ : ∀ {σ : L2.St} {H2 : Hp}, σ[2]? = some (some (.ref l2)) → σ[3]? = some (some (.int (0 + (j : Int)))) → Same H1 H2 → Pu (tOp (rIxL K) (tVar 2) (tVar 3)) σ H2 y := fun h1 h2 s => pu_ixL (pu_v h1) (pu_v h2) (SqL.of (s _ _ (s1 _ _ hl2))) (by rw [Int.zero_add]; exact atI_nat ey)
            have g1 : Gv (tCall sp_l_within [] E0 (tCons (tOp (rIxL K) (tVar 2) (tVar 3)) tNil)) [some (.ref l), some (.int (0 + (i : Int))), some (.ref l2), some (.int (0 + (j : Int)))] H1 (fun v H2 => v = .bl (lpL dj).isSome ∧ Same H1 H2) := gv_call (pa_c (IJ rfl rfl Same.rfl') pa_n) fun Q q => ⟨hd, y, dj, rfl, hy.same s1, fun H2 s => q _ _ ⟨rfl, s⟩⟩
            refine st_ifNG1 (R := fun b H2 => b = badAt (es.map lpL) j ∧ Same H1 H2) (gt_or (R := fun b H2 => b = !((lpL dj).isSome) ∧ Same H1 H2) ((gt_n (R := fun b H2 => b = (lpL dj).isSome ∧ Same H1 H2) ((gt_b (R := fun v H2 => v = .bl (lpL dj).isSome ∧ Same H1 H2) g1 (fun v H2 r => ⟨_, r.1⟩)).imp fun b H2 r => ⟨by have := r.1; cases this; rfl, r.2⟩)).imp fun b H2 r => ⟨by rw [← r.1]; simp, r.2⟩) (fun H2 r => ?_) (fun H2 r => ⟨?_, r.2⟩)) (fun H2 r => ?_) (fun H2 r => ?_)
            · obtain ⟨ns, e4⟩ : ∃ ns, lpL dj = some ns := by
                have := r.1
                cases q : lpL dj with
                | none => rw [q] at this; cases this
                | some ns => exact ⟨ns, rfl⟩
              rcases Nat.eq_zero_or_pos j with hj0 | hj0
              · subst hj0
                refine PuT.gt (pt_and (b := false) (c := true) (pt_t (pu_cast (pu_gt (pu_v rfl) pu_c) (by simp))) (fun e => by cases e)) ⟨?_, r.2⟩
                unfold badAt
                rw [pj, e4]
                rfl
              · obtain ⟨m, rfl⟩ : ∃ m, j = m + 1 := ⟨j - 1, by omega⟩
                obtain ⟨ms, hms⟩ := badAt_some (hb m (Nat.lt_succ_self m))
                obtain ⟨y0, ey0⟩ : ∃ y, xs2[m]? = some y := ⟨_, List.getElem?_eq_getElem (by omega)⟩
                refine PuT.gt (pt_and (b := true) (pt_t (pu_cast (pu_gt (pu_v rfl) pu_c) (by congr 1; rw [decide_eq_true_iff]; omega))) fun _ => pt_t (pu_eqT (IJ rfl rfl r.2) (pu_ixL (pu_v rfl) (pu_cast (pu_sub (pu_v rfl) pu_c) (show V.int _ = .int (m : Int) by congr 1; omega)) (SqL.of (r.2 _ _ (s1 _ _ hl2))) (atI_nat ey0)) (TupT.i (PT ey (by rw [pj, e4]) (s1.trans r.2))) (TupT.i (PT ey0 hms (s1.trans r.2))))) ⟨?_, r.2⟩
                unfold badAt
                rw [pj, e4]
                show _ = (decide (0 < m + 1) && decide ((es.map lpL)[m + 1 - 1]? = some (some ns)))
                rw [Nat.add_sub_cancel, hms]
                simp only [Nat.zero_lt_succ, decide_true, Bool.true_and, Option.some.injEq]
                rw [decide_eq_decide]
                exact eq_comm
            · have e4 : lpL dj = none := by
                have := r.1
                cases q : lpL dj with
                | none => rfl
                | some ns => rw [q] at this; cases this
              unfold badAt
              rw [pj, e4]
            · refine RT (a := i) (b := j) (kI rfl) (jI rfl) (LF ?_) (s'.trans (s1.trans r.2)) rfl
              rw [f3]
              exact rf_at (by rw [pl]; omega) hb r.1.symm
            · refine ⟨s1.trans r.2, ⟨_, rfl⟩, fun m hm => ?_⟩
              by_cases z : m < j
              · exact hb m z
              · have : m = j := by omega
                subst this
                exact r.1.symm
          · rintro σ H1 ⟨s1, ⟨c, rfl⟩, hb⟩
            have hb' : ∀ j < (es.map lpL).length, badAt (es.map lpL) j = false := fun j hj => hb j (by rw [pl] at hj; omega)
            obtain ⟨y0, hy0⟩ : ∃ y, xs2[0]? = some y := ⟨_, List.getElem?_eq_getElem (by omega)⟩
            obtain ⟨y1, hy1⟩ : ∃ y, xs2[xs2.length - 1]? = some y := ⟨_, List.getElem?_eq_getElem (by omega)⟩
            obtain ⟨n0, p0⟩ := badAt_some (hb' 0 (by rw [pl]; omega))
            obtain ⟨n1, p1⟩ := badAt_some (hb' (xs2.length - 1) (by rw [pl]; omega))
            have hat : atI xs2 (-1) = some y1 := by
              unfold atI ixN
              rw [if_neg (by decide), if_pos (by omega)]
              show xs2[((-1 : Int) + xs2.length).toNat]? = _
              rw [show ((-1 : Int) + xs2.length).toNat = xs2.length - 1 by omega]
              exact hy1
            have hrf : rf (es.map lpL) = if n0 = n1 then some (es.length - 1) else none := by
              rw [rf_end hb', pl, List.head?_eq_getElem?, List.getLast?_eq_getElem?, pl, p0, ← ll2, p1]
              by_cases z : n0 = n1
              · rw [if_pos z, if_pos (by rw [z])]
              · rw [if_neg z, if_neg (fun h => z (Option.some.inj (Option.some.inj h)))]
            have hl1 := s1 _ _ hl2
            refine st_ifN1 (pt_t (pu_eqT (pu_ixL (pu_v rfl) pu_c (SqL.of hl1) (atI_nat (j := 0) hy0)) (pu_ixL (pu_v rfl) (pu_neg pu_c) (SqL.of hl1) hat) (TupT.i (PT hy0 p0 s1)) (TupT.i (PT hy1 p1 s1)))) (fun e' => ?_) fun e' => ?_
            · have e7 : n0 = n1 := by simpa using e'
              rw [if_pos e7] at hrf
              exact RT (a := i) (b := es.length - 1) (kI rfl) (pu_cast (pu_sub (pu_lenL (pa_c (pu_v rfl) pa_n) (SqL.of hl1)) pu_c) (show V.int _ = .int ((es.length - 1 : Nat) : Int) by congr 1; omega)) (LF (by rw [f3]; exact hrf)) (s'.trans s1) rfl
            · have e7 : ¬ n0 = n1 := by simpa using e'
              rw [if_neg e7] at hrf
              refine ⟨s'.trans s1, ⟨_, _, _, rfl⟩, fun m hm d' hd' => ?_⟩
              by_cases z : m < i
              · exact hj m z d' hd'
              · have : m = i := by omega
                subst this
                rw [hdi] at hd'
                cases hd'
                rw [f3]
                exact hrf
        | _ => cases hL2
      · rintro σ H' ⟨s', ⟨c1, c2, c3, rfl⟩, hj⟩
        refine st_ret pu_c (k _ _ s' ?_)
        unfold RefD
        rw [e3, firstF_none fun m d' hd' => hj m (by have := (List.getElem?_eq_some_iff.mp hd').1; omega) d' hd']
    | _ => cases hL
/-- rings of a layer, where they lie -/
def RgA (H : Hp) (l : Addr) (as : List Addr) (ds : List D) : Prop := H l = some (.lst (as.map V.ref)) ∧ as.length = ds.length ∧ ∀ (i : Nat) p, as[i]? = some p → RowI ds H i p
theorem RgA.same {H H' : Hp} {l : Addr} {as : List Addr} {ds : List D} (h : RgA H l as ds) (s : Same H H') : RgA H' l as ds := ⟨s _ _ h.1, h.2.1, fun i p hp => (stays_rowI ds).same (h.2.2 i p hp) s⟩
theorem tup_inj {ns ms : List Int} (h : D.tup (ns.map D.int) = D.tup (ms.map D.int)) : ns = ms := by
  have h := D.tup.inj h
  have := congrArg intsD h
  rw [intsD_ints, intsD_ints] at this
  exact Option.some.inj this
theorem tups_inj : ∀ {nss mss : List (List Int)}, nss.map (fun ns => D.tup (ns.map D.int)) = mss.map (fun ns => D.tup (ns.map D.int)) → nss = mss
  | [], [], _ => rfl
  | [], _ :: _, h => by cases h
  | _ :: _, [], h => by cases h
  | ns :: nss, ms :: mss, h => by
    simp only [List.map_cons, List.cons.injEq] at h
    rw [tup_inj h.1, tups_inj h.2]
theorem pds_ints : ∀ ns : List Int, pds (ns.map D.int) = ns.map PyData.int
  | [] => rfl
  | n :: ns => by show PyData.int n :: pds (ns.map D.int) = _; rw [pds_ints ns]; rfl
theorem pds_tups : ∀ nss : List (List Int), pds (nss.map fun ns => D.tup (ns.map D.int)) = nss.map fun ns => PyData.tuple (ns.map PyData.int)
  | [] => rfl
  | ns :: nss => by
    show PyData.tuple (pds (ns.map D.int)) :: pds (nss.map fun ns => D.tup (ns.map D.int)) = _
    rw [pds_tups nss, pds_ints]; rfl
theorem RowI.dat {H : Hp} {ds : List D} {i : Nat} {p : Addr} {k : Nat} (h : RowI ds H i p) : ∃ d, ds[i]? = some d ∧ Dat K H (k + 2) (.ref p) (pd d) := by
  obtain ⟨nss, xs, h1, h2, h3⟩ := h
  refine ⟨_, h1, ?_⟩
  show Dat K H (k + 2) (.ref p) (.list (pds (nss.map fun ns => D.tup (ns.map D.int))))
  rw [pds_tups]
  exact .lst (SqL.of h2) (TupsT.dats h3)
theorem dats_rows {H : Hp} {k : Nat} : ∀ {as : List Addr} {ds : List D}, as.length = ds.length → (∀ (i : Nat) p, as[i]? = some p → ∃ d, ds[i]? = some d ∧ Dat K H k (.ref p) (pd d)) → Dats K H k (as.map V.ref) (pds ds)
  | [], [], _, _ => .nil
  | [], _ :: _, h, _ => by cases h
  | _ :: _, [], h, _ => by cases h
  | a :: as, d :: ds, h, g => by
    obtain ⟨d', e, hd'⟩ := g 0 a rfl
    cases e
    exact .cons hd' (dats_rows (Nat.succ.inj h) fun i p hp => g (i + 1) p hp)
theorem RgA.dat {H : Hp} {l : Addr} {as : List Addr} {ds : List D} (h : RgA H l as ds) : Dat K H 8 (.ref l) (pd (.lst ds)) :=
  .lst (SqL.of h.1) (dats_rows (k := 7) h.2.1 fun i p hp => (h.2.2 i p hp).dat (k := 5))
theorem row_good {H : Hp} {ds : List D} {i : Nat} {p : Addr} (g : ∀ d ∈ ds, ringF d = none) (h : RowI ds H i p) : ∃ nss xs, ds[i]? = some (.lst (nss.map fun ns => .tup (ns.map D.int))) ∧ H p = some (.lst xs) ∧ TupsT H xs nss ∧ nss.length ≤ 12 ∧ ∀ ns ∈ nss, lpI ns = true := by
  obtain ⟨nss, xs, h1, h2, h3⟩ := h
  obtain ⟨mss, e, e1, e2, e3⟩ := ringF_good (g _ (List.mem_of_getElem? h1))
  have := tups_inj (D.lst.inj e)
  subst this
  exact ⟨nss, xs, h1, h2, h3, e1, e3⟩
theorem tup_dat {hd : Addr} {H : Hp} {v : V} {ns : List Int} (h : TupT H v ns) : DAt hd H v (.tup (ns.map D.int)) := by
  obtain ⟨a, rfl, ha⟩ := h
  exact .tup ha (ds_ints ns)
theorem lpL_of {ns : List Int} (h : lpI ns = true) : lpL (.tup (ns.map D.int)) = some ns := by
  show (match intsD (ns.map D.int) with | some ns => if lpI ns = true then some ns else none | none => none) = some ns
  rw [intsD_ints]
  show (if lpI ns = true then some ns else none) = some ns
  rw [if_pos h]
def sp_l_alike : Sp := fun vs H Q _ => ∃ f l as bs ds, vs = [.ref f, .ref l] ∧ RgA H f as ds ∧ RgA H l bs ds ∧ (∀ d ∈ ds, ringF d = none) ∧ ds.length ≤ 4 ∧ ∀ H', Same H H' → Q (.bl true) H'
theorem sc_l_alike : FnScope ["_law_found", "_law_rings", "_law_k", "_law_p"] ["_law_found", "_law_rings"] (defScope s_l_alike) := ⟨rfl, rfl, rfl, by decide +kernel, rfl, by decide +kernel, by decide +kernel⟩
theorem ok_l_alike (T : Txt K mg t) : FnOk P w K mg base CX0 4 t.f_l_alike t.d_l_alike ["_law_found", "_law_rings"] sp_l_alike := by
  refine T.l_alike.F.ok (k := 3) sc_l_alike (fun vs H Q E h => ?_) (fun cdv A outer s H vs Q E hr h => ?_)
  · obtain ⟨f, l, as, bs, ds, rfl, _⟩ := h
    rfl
  · obtain ⟨f, l, as, bs, ds, rfl, hf, hl, hg, h4, k⟩ := h
    refine ⟨_, (@pss_cons _ _ _ _ _ (@ps_if _ _ _ _ _ _ _ _ (PW.pt (@pw_or _ _ _ _ _ _ _ (@pt_not _ _ _ _ (@pt_val _ _ _ (@pe_callB _ _ _ _ _ _ _ _ _ call_isinst (by rfl) T.b_isinstance PyProof.Rows.boot_isinstance (@pa_cons _ _ _ _ _ (pv 0) (@pa_cons _ _ _ _ _ (@pe_ty _ _ _ _ T.b_list PyProof.Rows.boot_list (by rfl) (by decide) (by decide)) (@pa_nil _) star_name) star_name) (by decide) (by decide) (by rfl) (by rfl)) (by intro _; rfl))) (@pw_or1 _ _ _ _ (@pt_cmpR _ _ _ _ _ _ _ _ op_ne (@pe_callB _ _ _ _ _ _ _ _ _ call_len_seq (by rfl) T.b_len PySem.boot_len (@pa_cons _ _ _ _ _ (pv 0) (@pa_nil _) star_name) (by decide) (by decide) (by rfl) (by rfl)) (@pe_callB _ _ _ _ _ _ _ _ _ call_len_seq (by rfl) T.b_len PySem.boot_len (@pa_cons _ _ _ _ _ (pv 1) (@pa_nil _) star_name) (by decide) (by decide) (by rfl) (by rfl)) (nomark _))))) (@pss_one _ _ _ (@ps_ret _ _ _ _ (@pe_bl _ _ _ _))) (@pss_nil _)) (@pss_cons _ _ _ _ _ (@ps_for _ _ _ _ _ _ _ _ PassesOwn.never rfl (@pi_range1 _ _ _ _ _ _ rfl T.b_range (@pa_cons _ _ _ _ _ (@pe_callB _ _ _ _ _ _ _ _ _ call_len_seq (by rfl) T.b_len PySem.boot_len (@pa_cons _ _ _ _ _ (pv 1) (@pa_nil _) star_name) (by decide) (by decide) (by rfl) (by rfl)) (@pa_nil _) star_call) (by rfl)) (@pg_name _ _ 2 _ sc_l_alike.nd rfl (Or.inl rfl) (by first | exact .inl rfl | exact .inr rfl | assumption)) (@pss_cons _ _ _ _ _ (@ps_if _ _ _ _ _ _ _ _ (PW.pt (@pw_or _ _ _ _ _ _ _ (@pt_not _ _ _ _ (@pt_val _ _ _ (@pe_callB _ _ _ _ _ _ _ _ _ call_isinst (by rfl) T.b_isinstance PyProof.Rows.boot_isinstance (@pa_cons _ _ _ _ _ (@pe_ix _ _ _ _ _ _ _ ix_list (pv 0) (pv 2) (fun _ _ => rfl)) (@pa_cons _ _ _ _ _ (@pe_ty _ _ _ _ T.b_list PyProof.Rows.boot_list (by rfl) (by decide) (by decide)) (@pa_nil _) star_name) star_sub) (by decide) (by decide) (by rfl) (by rfl)) (by intro _; rfl))) (@pw_or1 _ _ _ _ (@pt_cmpR _ _ _ _ _ _ _ _ (op_neS hr.units) (@pe_ix _ _ _ _ _ _ _ ix_list (pv 0) (pv 2) (fun _ _ => rfl)) (@pe_ix _ _ _ _ _ _ _ ix_list (pv 1) (pv 2) (fun _ _ => rfl)) (nomark _))))) (@pss_one _ _ _ (@ps_ret _ _ _ _ (@pe_bl _ _ _ _))) (@pss_nil _)) (@pss_one _ _ _ (@ps_for _ _ _ _ _ _ _ _ PassesOwn.never rfl (@pi_list _ _ _ _ (@pe_ix _ _ _ _ _ _ _ ix_list (pv 0) (pv 2) (fun _ _ => rfl))) (@pg_name _ _ 3 _ sc_l_alike.nd rfl (Or.inl rfl) (by first | exact .inl rfl | exact .inr rfl | assumption)) (@pss_one _ _ _ (@ps_if _ _ _ _ _ _ _ _ (@pt_not _ _ _ _ (@pt_val _ _ _ (@pe_fn _ _ _ _ _ _ _ _ _ _ _ _ _ _ T.l_within (ok_l_within T) hr (by decide) (@pa_cons _ _ _ _ _ (pv 3) (@pa_nil _) star_name) (by rfl) (by decide) (by rfl) (by rfl)) (by intro _; rfl))) (@pss_one _ _ _ (@ps_ret _ _ _ _ (@pe_bl _ _ _ _))) (@pss_nil _))) (by intro _; rfl)))) (by intro _; rfl)) (@pss_one _ _ _ (@ps_ret _ _ _ _ (@pe_bl _ _ _ _))))), ?_⟩
    have e1 : (as.map V.ref).length = ds.length := by rw [List.length_map]; exact hf.2.1
    have e2 : (bs.map V.ref).length = ds.length := by rw [List.length_map]; exact hl.2.1
    refine st_ifN (b := false) (pt_or (b := false) (c := false) (pt_n (b := true) (pt_b (pu_isi (pa_c (pu_v rfl) (pa_c pu_c pa_n)) (.lst hf.1) kit_same))) fun _ => pt_t (pu_cast (pu_neI (pu_lenL (pa_c (pu_v rfl) pa_n) (SqL.of hf.1)) (pu_lenL (pa_c (pu_v rfl) pa_n) (SqL.of hl.1))) (by rw [e1, e2]; simp))) (fun e => by cases e) fun _ => ?_
    refine st_rangeG (ga_pu (pa_c (pu_lenL (pa_c (pu_v rfl) pa_n) (SqL.of hl.1)) pa_n)) ?_
    rintro _ H0 ⟨rfl, e⟩
    have e := e.symm
    subst e
    refine ⟨_, rfl, by omega, by omega, fun i σ H' => Same H H' ∧ (∃ a b : Option V, σ = [some (.ref f), some (.ref l), a, b]), ⟨Same.rfl', ⟨_, _, rfl⟩⟩, ?_, ?_⟩
    · rintro i σ H' hi ⟨s', ⟨c1, c2, rfl⟩⟩
      have hi' : i < ds.length := by omega
      obtain ⟨pa, hpa⟩ : ∃ p, as[i]? = some p := ⟨_, List.getElem?_eq_getElem (by rw [hf.2.1]; exact hi')⟩
      obtain ⟨pb, hpb⟩ : ∃ p, bs[i]? = some p := ⟨_, List.getElem?_eq_getElem (by rw [hl.2.1]; exact hi')⟩
      have hf' := hf.same s'
      have hl' := hl.same s'
      have ia : (as.map V.ref)[i]? = some (.ref pa) := by rw [List.getElem?_map, hpa]; rfl
      have ib : (bs.map V.ref)[i]? = some (.ref pb) := by rw [List.getElem?_map, hpb]; rfl
      obtain ⟨nss, xs, q1, q2, q3, q4, q5⟩ := row_good hg (hf'.2.2 i pa hpa)
      obtain ⟨d1, g1, t1⟩ := (hf'.2.2 i pa hpa).dat (K := K) (k := 6)
      obtain ⟨d2, g2, t2⟩ := (hl'.2.2 i pb hpb).dat (K := K) (k := 6)
      rw [g1] at g2
      cases g2
      have IA : ∀ {c : Option V} {H2 : Hp}, Same H' H2 → Pu (tOp (rIxL K) (tVar 0) (tVar 2)) [some (.ref f), some (.ref l), some (.int (0 + (i : Int))), c] H2 (.ref pa) := fun s => pu_ixL (pu_v rfl) (pu_v rfl) (SqL.of (s _ _ hf'.1)) (by rw [Int.zero_add]; exact atI_nat ia)
      refine st_ifN (b := false) (pt_or (b := false) (c := false) (pt_n (b := true) (pt_b (pu_isi (pa_c (IA Same.rfl') (pa_c pu_c pa_n)) (.lst q2) kit_same))) fun _ => pt_t (pu_neS (IA Same.rfl') (pu_ixL (pu_v rfl) (pu_v rfl) (SqL.of hl'.1) (by rw [Int.zero_add]; exact atI_nat ib)) t1 t2)) (fun e => by cases e) fun _ => ?_
      refine st_list1 (xs := xs) (a := pa) (IA Same.rfl') (fun j σ H2 => Same H' H2 ∧ (∃ b : Option V, σ = [some (.ref f), some (.ref l), some (.int (0 + (i : Int))), b])) ⟨Same.rfl', ⟨_, rfl⟩⟩ (fun j σ H2 _ p => SqL.of (p.1 _ _ q2)) ?_ ?_
      · rintro j x σ H2 hx ⟨s2, ⟨b, rfl⟩⟩
        obtain ⟨ns, hns, tx⟩ := q3.get' hx
        have lp := q5 ns (List.mem_of_getElem? hns)
        refine st_ifNG1 (R := fun b H3 => b = false ∧ Same H2 H3) ((gt_n (R := fun b H3 => b = true ∧ Same H2 H3) ((gt_b (R := fun v H3 => v = .bl true ∧ Same H2 H3) (gv_call (pa_c (pu_v rfl) pa_n) fun Q q => ⟨f, x, _, rfl, tup_dat (tx.same s2), fun H3 s => q _ _ ⟨by rw [lpL_of lp]; rfl, s⟩⟩) (fun v H3 r => ⟨_, r.1⟩)).imp fun b H3 r => ⟨by have := r.1; cases this; rfl, r.2⟩)).imp fun b H3 r => ⟨by have := r.1; simpa using this, r.2⟩) (fun H3 r => by cases r.1) (fun H3 r => ⟨s2.trans r.2, ⟨_, rfl⟩⟩)
      · rintro σ H2 ⟨s2, ⟨b, rfl⟩⟩
        exact ⟨s'.trans s2, ⟨_, _, rfl⟩⟩
    · rintro σ H' ⟨s', ⟨c1, c2, rfl⟩⟩
      exact st_ret pu_c (k _ s')
def sp_l_refused : Sp := fun vs H Q _ => ∃ (hd : Addr) (v : V) (d : D), vs = [v] ∧ DAt hd H v d ∧ ∀ r H', Same H H' → RefD H' d r → Q r H'
theorem sc_l_refused : FnScope ["_law_thing", "e"] ["_law_thing"] (defScope s_l_refused) := ⟨rfl, rfl, rfl, by decide +kernel, rfl, by decide +kernel, by decide +kernel⟩
theorem ok_l_refused (T : Txt K mg t) : FnOk P w K mg base CX0 6 t.f_l_refused t.d_l_refused ["_law_thing"] sp_l_refused := by
  refine T.l_refused.F.ok (k := 5) sc_l_refused (fun vs H Q E h => ?_) (fun cdv A outer s H vs Q E hr h => ?_)
  · obtain ⟨hd, v, d, rfl, _⟩ := h
    rfl
  · obtain ⟨hd, v, d, rfl, hv, k⟩ := h
    refine ⟨_, (@pss_cons _ _ _ _ _ (@ps_tryD _ 1 _ _ _ _ _ _ _ _ _ _ _ _ _ _ _ _ _ _ _ _ _ rfl rfl rfl rfl (okx_layer_of T) (hr.mono (by decide)) rfl T.layer_of.m T.layer_of.F.kp T.layer_of.b (@pa_cons _ _ _ _ _ (pv 0) (@pa_nil _) star_name) sc_l_refused.nd rfl rfl rfl T.m_BadLayer (fun _ => (@pss_cons _ _ _ _ _ (@ps_if _ _ _ _ _ _ _ _ (PW.pt (@pw_or _ _ _ _ _ _ _ (@pt_val _ _ _ (@pe_callB _ _ _ _ _ _ _ _ _ (call_isinstG (K := K) rfl) (by rfl) T.b_isinstance PyProof.Rows.boot_isinstance (@pa_cons _ _ _ _ _ (pv 1) (@pa_cons _ _ _ _ _ (@pe_cls _ _ _ _ T.m_BadPlan (by rfl) (by decide)) (@pa_nil _) star_name) star_name) (by decide) (by decide) (by rfl) (by rfl)) (by intro _; rfl)) (@pw_or _ _ _ _ _ _ _ (@pt_val _ _ _ (@pe_callB _ _ _ _ _ _ _ _ _ (call_isinstG (K := K) rfl) (by rfl) T.b_isinstance PyProof.Rows.boot_isinstance (@pa_cons _ _ _ _ _ (pv 1) (@pa_cons _ _ _ _ _ (@pe_cls _ _ _ _ T.m_NoPoint (by rfl) (by decide)) (@pa_nil _) star_name) star_name) (by decide) (by decide) (by rfl) (by rfl)) (by intro _; rfl)) (@pw_or1 _ _ _ _ (@pt_val _ _ _ (@pe_callB _ _ _ _ _ _ _ _ _ (call_isinstG (K := K) rfl) (by rfl) T.b_isinstance PyProof.Rows.boot_isinstance (@pa_cons _ _ _ _ _ (pv 1) (@pa_cons _ _ _ _ _ (@pe_cls _ _ _ _ T.m_TooMany (by rfl) (by decide)) (@pa_nil _) star_name) star_name) (by decide) (by decide) (by rfl) (by rfl)) (by intro _; rfl)))))) (@pss_one _ _ _ (@ps_ret _ _ _ _ (@pe_tup _ _ _ _ _ (@pa_nil _)))) (@pss_nil _)) (@pss_cons _ _ _ _ _ (@ps_if _ _ _ _ _ _ _ _ (PW.pt (@pw_or _ _ _ _ _ _ _ (@pt_not _ _ _ _ (@pt_val _ _ _ (@pe_callB _ _ _ _ _ _ _ _ _ (call_isinstG (K := K) rfl) (by rfl) T.b_isinstance PyProof.Rows.boot_isinstance (@pa_cons _ _ _ _ _ (pv 1) (@pa_cons _ _ _ _ _ (@pe_ty _ _ _ _ T.b_ValueError PyProof.Rows.Boot.«ValueError» (by rfl) (by decide) (by decide)) (@pa_nil _) star_name) star_name) (by decide) (by decide) (by rfl) (by rfl)) (by intro _; rfl))) (@pw_or _ _ _ _ _ _ _ (@pt_not _ _ _ _ (@pt_val _ _ _ (pe_fnQ T.l_whole (okq_l_whole T) (hr.mark _) (by decide) (@pa_cons _ _ _ _ _ (pe_fldEK (K := K) rfl (pv 1) rfl) (@pa_nil _) star_attr)) (by intro _; rfl))) (@pw_or1 _ _ _ _ (@pt_not _ _ _ _ (@pt_val _ _ _ (pe_fnQ T.l_whole (okq_l_whole T) (hr.mark _) (by decide) (@pa_cons _ _ _ _ _ (pe_fldEK (K := K) rfl (pv 1) rfl) (@pa_nil _) star_attr)) (by intro _; rfl))))))) (@pss_one _ _ _ (@ps_ret _ _ _ _ (@pe_tup _ _ _ _ _ (@pa_nil _)))) (@pss_nil _)) (@pss_one _ _ _ (@ps_ret _ _ _ _ (@pe_tup _ _ _ _ _ (@pa_cons _ _ _ _ _ (pe_fldEK (K := K) rfl (pv 1) rfl) (@pa_cons _ _ _ _ _ (pe_fldEK (K := K) rfl (pv 1) rfl) (@pa_nil _) star_attr) star_attr))))))) (by rfl) (by decide) (by decide) (by rfl) (by rfl)) (@pss_one _ _ _ (@ps_ret _ _ _ _ (@pe_non _ _ _)))), ?_⟩
    refine st_tryD (pa_c (pu_v rfl) pa_n) ?_
    refine ⟨hd, v, d, rfl, hv, fun ds r H' e1 e2 hL => ?_, fun kk j dx H' hf s' hdx => ⟨T.m_bad, fun ea hea => ?_⟩⟩
    · exact st_ret pu_c (k _ _ hL.1 (by unfold RefD; rw [e2]))
    have s5 : Same H' (upd H' ea (.ext (exG ea (.ref t.c_BadLayer) (some dx)))) := Same.upd hea
    have he : (upd H' ea (.ext (exG ea (.ref t.c_BadLayer) (some dx)))) ea = some (.ext (exG ea (.ref t.c_BadLayer) (some dx))) := upd_same
    have hdx5 := s5 _ _ hdx
    have s05 := s'.trans s5
    generalize upd H' ea (.ext (exG ea (.ref t.c_BadLayer) (some dx))) = H5 at s5 he hdx5 s05 ⊢
    have FR : Pu (tFldE K (tVar 1) (Str.ofString "ring")) [some v, some (.ref ea)] H5 (.int kk) := pu_fldE (pu_v rfl) he hdx5 T.xc_BadLayer T.n_BadLayer_ring rfl
    have FA : Pu (tFldE K (tVar 1) (Str.ofString "at")) [some v, some (.ref ea)] H5 (.int j) := pu_fldE (pu_v rfl) he hdx5 T.xc_BadLayer T.n_BadLayer_at rfl
    refine st_ifN (b := false) (pt_or (b := false) (c := false) (pt_b (pu_isG (pa_c (pu_v rfl) (pa_c pu_c pa_n)) he T.xc_BadLayer.c (.ref _) T.i_plan)) fun _ => pt_or (b := false) (c := false) (pt_b (pu_isG (pa_c (pu_v rfl) (pa_c pu_c pa_n)) he T.xc_BadLayer.c (.ref _) T.i_point)) fun _ => pt_b (pu_isG (pa_c (pu_v rfl) (pa_c pu_c pa_n)) he T.xc_BadLayer.c (.ref _) T.i_many)) (fun e => by cases e) fun _ => ?_
    refine st_ifN (b := false) (pt_or (b := false) (c := false) (pt_n (b := true) (pt_b (pu_isG (pa_c (pu_v rfl) (pa_c pu_c pa_n)) he T.xc_BadLayer.c (.ty _) T.i_val))) fun _ => pt_or (b := false) (c := false) (pt_n (b := true) (pt_b (pu_call (pa_c FR pa_n) fun Q q => ⟨hd, _, .int kk, rfl, .int _, q⟩))) fun _ => pt_n (b := true) (pt_b (pu_call (pa_c FA pa_n) fun Q q => ⟨hd, _, .int j, rfl, .int _, q⟩))) (fun e => by cases e) fun _ => ?_
    refine st_retG (gv_tup (pa_c FR (pa_c FA pa_n)) (by show 2 ≤ sizeLine; decide)) ?_
    rintro _ _ ⟨p, hp, rfl, rfl⟩
    exact k _ _ (s05.trans (Same.upd hp)) (by unfold RefD; rw [hf]; exact TupT.of (ns := [(kk : Int), (j : Int)]) upd_same)
def sp_l_by_base : Sp := fun vs H Q _ => ∃ (hd : Addr) (v : V) (d : D), vs = [v] ∧ DAt hd H v d ∧ layF d ≠ none ∧ ∀ H', Same H H' → Q (.bl true) H'
theorem sc_l_by_base : FnScope ["_law_thing", "e"] ["_law_thing"] (defScope s_l_by_base) := ⟨rfl, rfl, rfl, by decide +kernel, rfl, by decide +kernel, by decide +kernel⟩
theorem ok_l_by_base (T : Txt K mg t) : FnOk P w K mg base CX0 6 t.f_l_by_base t.d_l_by_base ["_law_thing"] sp_l_by_base := by
  refine T.l_by_base.F.ok (k := 5) sc_l_by_base (fun vs H Q E h => ?_) (fun cdv A outer s H vs Q E hr h => ?_)
  · obtain ⟨hd, v, d, rfl, _⟩ := h
    rfl
  · obtain ⟨hd, v, d, rfl, hv, hn, k⟩ := h
    refine ⟨_, (@pss_cons _ _ _ _ _ (@ps_tryD _ 1 _ _ _ _ _ _ _ _ _ _ _ _ _ _ _ _ _ _ _ _ _ rfl rfl rfl rfl (okx_layer_of T) (hr.mono (by decide)) rfl T.layer_of.m T.layer_of.F.kp T.layer_of.b (@pa_cons _ _ _ _ _ (pv 0) (@pa_nil _) star_name) sc_l_by_base.nd rfl rfl rfl T.m_PlyError (fun _ => (@pss_one _ _ _ (@ps_ret _ _ _ _ (@pe_callB _ _ _ _ _ _ _ _ _ (call_isinstG (K := K) rfl) (by rfl) T.b_isinstance PyProof.Rows.boot_isinstance (@pa_cons _ _ _ _ _ (pv 1) (@pa_cons _ _ _ _ _ (@pe_cls _ _ _ _ T.m_BadLayer (by rfl) (by decide)) (@pa_nil _) star_name) star_name) (by decide) (by decide) (by rfl) (by rfl))))) (by rfl) (by decide) (by decide) (by rfl) (by rfl)) (@pss_one _ _ _ (@ps_ret _ _ _ _ (@pe_bl _ _ _ _)))), ?_⟩
    refine st_tryD (pa_c (pu_v rfl) pa_n) ?_
    refine ⟨hd, v, d, rfl, hv, fun ds r H' e1 e2 hL => absurd e2 hn, fun kk j dx H' hf s' hdx => ⟨T.m_top, fun ea hea => ?_⟩⟩
    have he : (upd H' ea (.ext (exG ea (.ref t.c_BadLayer) (some dx)))) ea = some (.ext (exG ea (.ref t.c_BadLayer) (some dx))) := upd_same
    exact st_ret (pu_isG (pa_c (pu_v rfl) (pa_c pu_c pa_n)) he T.xc_BadLayer.c (.ref _) T.i_bad) (k _ (s'.trans (Same.upd hea)))
theorem gv_compCp {σ : L2.St} {H : Hp} {te tl : TE} {fr : L2.St → L2.St} {k : Nat} {a : Addr} {xs : List V} (hl : Pu tl σ H (.ref a)) (ha : H a = some (.lst xs)) (hz : xs.length ≤ 1000) (hk : ∀ x, KeepS (fr σ) ((fr σ).set k (some x)))
    (hs : ∀ (i : Nat) x H', xs[i]? = some x → Same H H' → Gv te ((fr σ).set k (some x)) H' (fun v H'' => Same H' H'' ∧ (x = v ∨ ∃ p q zs, x = .ref p ∧ v = .ref q ∧ H p = some (.lst zs) ∧ H' q = none ∧ H'' q = some (.lst zs)))) :
    Gv (tComp (iList K tl) fr (gName k) te) σ H (fun v H' => Same H H' ∧ ∃ D ys, v = .ref D ∧ H' D = some (.lst ys) ∧ xs.length = ys.length ∧ ∀ (i : Nat) u w, xs[i]? = some u → ys[i]? = some w → u = w ∨ ∃ p q zs, u = .ref p ∧ w = .ref q ∧ H' p = some (.lst zs) ∧ H' q = some (.lst zs)) := by
  intro Q g
  refine hl _ ⟨a, rfl, ⟨xs, SqL.of ha⟩, fun D hD => ?_⟩
  refine ⟨fun i m ys H' => m = xs.length - i ∧ i ≤ xs.length ∧ ys.length = i ∧ Same H H' ∧ H' D = some (.lst ys) ∧ ∀ (i : Nat) u w, xs[i]? = some u → ys[i]? = some w → u = w ∨ ∃ p q zs, u = .ref p ∧ w = .ref q ∧ H p = some (.lst zs) ∧ q ≠ D ∧ H' q = some (.lst zs), ⟨_, rfl, Nat.zero_le _, rfl, Same.upd hD, upd_same, fun i u w _ h => by simp at h⟩, ?_⟩
  rintro i m ys H' ⟨rfl, hi, hy, s', hD', hR⟩
  by_cases hlt : i < xs.length
  · refine .inr ⟨⟨xs, xs[i], SqL.of (s' _ _ ha), by simp [hlt]⟩, small1000 (by omega), fun x H3 y => ?_⟩
    obtain ⟨e, y⟩ := y
    subst e
    have hx : xs[i]? = some x := y xs (SqL.of (s' _ _ ha))
    refine ⟨hk x, hs i x _ hx s' _ fun v H4 ⟨s4, r4⟩ => ⟨s4 _ _ hD', _, by omega, rfl, hlt, by simp [hy], same_updNew (s'.trans s4) hD, upd_same, fun j u w hu hw => ?_⟩⟩
    have hD4 := s4 _ _ hD'
    by_cases hj : j < ys.length
    · rw [List.getElem?_append_left hj] at hw
      rcases hR j u w hu hw with e | ⟨p, q, zs, e1, e2, e3, e4, e5⟩
      · exact .inl e
      · exact .inr ⟨p, q, zs, e1, e2, e3, e4, by rw [upd_ne e4]; exact s4 _ _ e5⟩
    · rw [List.getElem?_append_right (by omega)] at hw
      have ej : j - ys.length = 0 := by
        rcases Nat.eq_zero_or_pos (j - ys.length) with e | e
        · exact e
        · rw [List.getElem?_eq_none (by simp; omega)] at hw; cases hw
      rw [ej] at hw
      have e2 : v = w := by simpa using hw
      subst e2
      have e3 : j = i := by omega
      subst e3
      rw [hx] at hu
      cases hu
      rcases r4 with e | ⟨p, q, zs, e1, e2, e3, e4, e5⟩
      · exact .inl e
      · have nq : q ≠ D := fun e => by rw [e, hD'] at e4; cases e4
        exact .inr ⟨p, q, zs, e1, e2, e3, nq, by rw [upd_ne nq]; exact e5⟩
  · have e : i = xs.length := by omega
    subst e
    refine .inl ⟨⟨xs, SqL.of (s' _ _ ha), Nat.le_refl _⟩, g _ _ ⟨s', D, ys, rfl, hD', hy.symm, fun j u w hu hw => ?_⟩⟩
    rcases hR j u w hu hw with e | ⟨p, q, zs, e1, e2, e3, e4, e5⟩
    · exact .inl e
    · exact .inr ⟨p, q, zs, e1, e2, s' _ _ e3, e5⟩
def sp_l_copy : Sp := fun vs H Q _ => ∃ (hd : Addr) (v : V) (d : D), vs = [v] ∧ DAt hd H v d ∧ (∀ ds, d = .lst ds → ds.length ≤ 1000) ∧ ∀ r H', Same H H' → CpAt H' v r → Q r H'
theorem sc_l_copy : FnScope ["_law_thing"] ["_law_thing"] (defScope s_l_copy) := ⟨rfl, rfl, rfl, by decide +kernel, rfl, by decide +kernel, by decide +kernel⟩
theorem ok_l_copy (T : Txt K mg t) : FnOk P w K mg base CX0 1 t.f_l_copy t.d_l_copy ["_law_thing"] sp_l_copy := by
  refine T.l_copy.F.ok (k := 0) sc_l_copy (fun vs H Q E h => ?_) (fun cdv A outer s H vs Q E hr h => ?_)
  · obtain ⟨hd, v, d, rfl, _⟩ := h
    rfl
  · obtain ⟨hd, v, d, rfl, hv, hz, k⟩ := h
    refine ⟨_, (@pss_cons _ _ _ _ _ (@ps_if _ _ _ _ _ _ _ _ (@pt_val _ _ _ (@pe_callB _ _ _ _ _ _ _ _ _ call_isinst (by rfl) T.b_isinstance PyProof.Rows.boot_isinstance (@pa_cons _ _ _ _ _ (pv 0) (@pa_cons _ _ _ _ _ (@pe_ty _ _ _ _ T.b_list PyProof.Rows.boot_list (by rfl) (by decide) (by decide)) (@pa_nil _) star_name) star_name) (by decide) (by decide) (by rfl) (by rfl)) (by intro _; rfl)) (@pss_one _ _ _ (@ps_ret _ _ _ _ (@pe_lcomp _ _ _ _ _ [] _ ["_law_ring_here"] _ (fun _ => [none]) _ _ rfl (@pi_list _ _ _ _ (pv 0)) (fun _ _ _ _ => pg_name (i := 0) (List.nodup_cons.mpr ⟨fun h => (nomatch h), List.nodup_nil⟩) rfl (Or.inl rfl) (.inr rfl)) (fun _ _ _ _ => (@pe_ifExp _ _ _ _ _ _ _ _ (@pt_val _ _ _ (@pe_callB _ _ _ _ _ _ _ _ _ (call_isinstB (K := K) rfl) (by rfl) T.b_isinstance PyProof.Rows.boot_isinstance (@pa_cons _ _ _ _ _ (pv 0) (@pa_cons _ _ _ _ _ (@pe_ty _ _ _ _ T.b_list PyProof.Rows.boot_list (by rfl) (by decide) (by decide)) (@pa_nil _) star_name) star_name) (by decide) (by decide) (by rfl) (by rfl)) (by intro _; rfl)) (@pe_callTy _ _ _ _ _ _ _ _ _ (call_list_ofK (K := K) rfl) (by rfl) T.b_list PyProof.Rows.boot_list (@pa_cons _ _ _ _ _ (pv 0) (@pa_nil _) star_name) (by decide) (by decide) (by rfl) (by rfl)) (pv 0))) (closureFor_none (by decide +kernel)) rfl (by decide +kernel) (by decide +kernel) (fun _ _ h => by cases h) (noCells (by rfl)) (fun _ _ => rfl) (fun _ i _ _ _ h => by cases i with | zero => cases h | succ i => simp at h) (by intro _; rfl)))) (@pss_nil _)) (@pss_one _ _ _ (@ps_ret _ _ _ _ (pv 0)))), ?_⟩
    by_cases hL : isLst d = true
    case neg =>
      have e0 : isLst d = false := by simpa using hL
      refine st_ifN (b := false) (pt_b (pu_isi (pa_c (pu_v rfl) (pa_c pu_c pa_n)) hv.ty (by rw [kd_lst, e0]))) (fun e => by cases e) (fun _ => ?_)
      exact st_ret (pu_v rfl) (k _ _ Same.rfl' (.inl rfl))
    cases hv with
    | @lst l xs ds hl nl td =>
      have ll := td.len
      have hz' := hz ds rfl
      refine st_ifN (b := true) (pt_b (pu_isi (pa_c (pu_v rfl) (pa_c pu_c pa_n)) (.lst hl) kit_same)) (fun _ => ?_) (fun e => by cases e)
      refine st_retG (gv_compCp (pu_v rfl) hl (by omega) (fun _ => KeepS.none1) fun i x H' hx s' => ?_) ?_
      · obtain ⟨dx, _, hx'⟩ := td.get hx
        have hx1 := hx'.same s'
        by_cases hL2 : isLst dx = true
        case neg =>
          have e0 : isLst dx = false := by simpa using hL2
          exact fun Q g => (pt_b (pu_isi (pa_c (pu_v rfl) (pa_c pu_c pa_n)) hx1.ty (by rw [kd_lst, e0]))) _ (by
            rw [if_neg (by decide)]
            exact pu_v rfl _ (g _ _ ⟨Same.rfl', .inl rfl⟩))
        cases hx' with
        | @lst l2 xs2 es hl2 nl2 td2 =>
          exact fun Q g => (pt_b (pu_isi (pa_c (pu_v rfl) (pa_c pu_c pa_n)) (.lst (s' _ _ hl2)) kit_same)) _ (by
            rw [if_pos rfl]
            exact (pa_c (pu_v rfl) pa_n : PuA (tCons (tVar 0) tNil) _ _ [.ref l2]) _ ⟨l2, _, rfl, .inl (SqL.of (s' _ _ hl2)), fun p hp => g _ _ ⟨Same.upd hp, .inr ⟨l2, p, xs2, rfl, rfl, hl2, hp, upd_same⟩⟩⟩)
        | _ => cases hL2
      · rintro v H' ⟨s', D, ys, rfl, hD, hl', h⟩
        exact k _ _ s' (.inr ⟨l, D, xs, ys, rfl, rfl, s' _ _ hl, hD, hl', h⟩)
    | _ => cases hL
theorem rg_of {hd : Addr} {H : Hp} {v : V} {d : D} (h : DAt hd H v d) (e : layF d = none) : ∃ l as ds, v = .ref l ∧ d = .lst ds ∧ RgA H l as ds ∧ (∀ d ∈ ds, ringF d = none) ∧ 1 ≤ ds.length ∧ ds.length ≤ 4 := by
  cases h with
  | @lst l xs ds hl nl td =>
    have e' : (if 1 ≤ ds.length ∧ ds.length ≤ 4 then firstF 0 ds else some (0, 0)) = none := e
    split at e'
    case isFalse => cases e'
    rename_i hb
    have gd : ∀ {ds : List D} {k : Nat}, firstF k ds = none → ∀ d ∈ ds, ringF d = none := by
      intro ds
      induction ds with
      | nil => intro k _ d h; cases h
      | cons d r ih =>
        intro k h d' hd'
        have h' : (match ringF d with | some j => some (k, j) | none => firstF (k + 1) r) = none := h
        cases q : ringF d with
        | some j => rw [q] at h'; cases h'
        | none =>
          rw [q] at h'
          rcases List.mem_cons.mp hd' with rfl | hd'
          · exact q
          · exact ih h' d' hd'
    have g := gd e'
    have key : ∀ {xs : List V} {es : List D}, DsAt hd H xs es → (∀ d ∈ es, ringF d = none) → ∃ as : List Addr, xs = as.map V.ref ∧ as.length = es.length ∧ ∀ (i : Nat) p, as[i]? = some p → RowI es H i p := by
      intro xs
      induction xs with
      | nil => intro es t _; cases t; exact ⟨[], rfl, rfl, fun i p h => by simp at h⟩
      | cons x xs ih =>
        intro es t g
        cases t with
        | @cons _ d _ ds h t =>
          obtain ⟨as, rfl, hl, hr⟩ := ih t fun d hd => g d (List.mem_cons_of_mem _ hd)
          obtain ⟨nss, rfl, n1, n2, n3⟩ := ringF_good (g d List.mem_cons_self)
          cases h with
          | @lst p ys _ hp np tp =>
            refine ⟨p :: as, rfl, by rw [List.length_cons, List.length_cons, hl], fun i q hq => ?_⟩
            cases i with
            | zero =>
              have : p = q := by simpa using hq
              subst this
              exact ⟨nss, ys, rfl, hp, ds_tups tp⟩
            | succ i =>
              obtain ⟨nss', ys', z1, z2, z3⟩ := hr i q (by simpa using hq)
              exact ⟨nss', ys', by simpa using z1, z2, z3⟩
    obtain ⟨as, rfl, hl', hr⟩ := key td g
    exact ⟨l, as, ds, rfl, rfl, ⟨hl, hl', hr⟩, g, hb.1, hb.2⟩
  | _ => cases e
theorem tups_ds {hd : Addr} {H : Hp} : ∀ {vs : List V} {nss : List (List Int)}, TupsT H vs nss → DsAt hd H vs (nss.map (fun ns => .tup (ns.map D.int)))
  | _, _, .nil => .nil
  | _, _, .cons h t => .cons (tup_dat h) (tups_ds t)
theorem rg_dat {hd : Addr} {H : Hp} {l : Addr} {as : List Addr} {ds : List D} (h : RgA H l as ds) (n : l ≠ hd) (na : ∀ a ∈ as, a ≠ hd) : DAt hd H (.ref l) (.lst ds) := by
  refine .lst h.1 n ?_
  obtain ⟨_, h2, h3⟩ := h
  have key : ∀ {as : List Addr} {ds : List D}, as.length = ds.length → (∀ a ∈ as, a ≠ hd) → (∀ (i : Nat) p, as[i]? = some p → RowI ds H i p) → DsAt hd H (as.map V.ref) ds := by
    intro as
    induction as with
    | nil =>
      intro ds h _ _
      cases ds with
      | nil => exact .nil
      | cons _ _ => cases h
    | cons a as ih =>
      intro ds h na hr
      cases ds with
      | nil => cases h
      | cons d ds =>
        obtain ⟨nss, xs, e1, e2, e3⟩ := hr 0 a rfl
        cases e1
        refine .cons (.lst e2 (na a List.mem_cons_self) (tups_ds e3)) (ih (Nat.succ.inj h) (fun b hb => na b (List.mem_cons_of_mem _ hb)) fun i p hp => ?_)
        obtain ⟨nss', ys', z1, z2, z3⟩ := hr (i + 1) p (by simpa using hp)
        exact ⟨nss', ys', by simpa using z1, z2, z3⟩
  exact key h2 na h3
theorem RgA.on {H : Hp} {l : Addr} {as : List Addr} {ds : List D} (h : RgA H l as ds) : ∀ a ∈ as, ∃ ys, H a = some (.lst ys) := fun a ha => by
  obtain ⟨i, hi⟩ := List.getElem?_of_mem ha
  obtain ⟨_, xs, _, e, _⟩ := h.2.2 i a hi
  exact ⟨xs, e⟩
theorem RgA.fw {W : Addr → Prop} {H H' : Hp} {l : Addr} {as : List Addr} {ds : List D} (h : RgA H l as ds) (f : FW W H H') (hw : ∀ s, W s → ∃ ys, H s = some (.lst ys)) (nl : ¬ W l) (na : ∀ a ∈ as, ¬ W a) : RgA H' l as ds := ⟨f _ _ h.1 nl, h.2.1, fun i p hp => by
  obtain ⟨nss, xs, e1, e2, e3⟩ := h.2.2 i p hp
  refine ⟨nss, xs, e1, f _ _ e2 (na p (List.mem_of_getElem? hp)), e3.mono fun v ns t => ?_⟩
  obtain ⟨a, rfl, ha⟩ := t
  exact ⟨a, rfl, f _ _ ha fun w => by
    obtain ⟨ys, e⟩ := hw a w
    rw [e] at ha; cases ha⟩⟩
/-- for ring in rings: ring.clear() -/
theorem st_clears {σ : L2.St} {H : Hp} {E : Ends} {rest : TS} {te : TE} {D : Addr} {ps : List Addr} {k : Nat} (hl : Pu te σ H (.ref D)) (hk : k < σ.length) (hD : H D = some (.lst (ps.map V.ref))) (nD : D ∉ ps) (hp : ∀ p ∈ ps, ∃ ys, H p = some (.lst ys))
    (q : ∀ H' c, FW (· ∈ ps) H H' → (∀ p ∈ ps, ∃ ys, H' p = some (.lst ys)) → rest E (σ.set k c) H') : tSeq (tFor (iList K te) (gName k) (tDrop (tBM0 K "list" rClear (tVar k)))) rest E σ H := by
  refine st_list (xs := ps.map V.ref) (a := D) hl (fun i σ' H' => (∃ c, σ' = σ.set k c) ∧ FW (· ∈ ps) H H' ∧ ∀ p ∈ ps, ∃ ys, H' p = some (.lst ys)) ⟨⟨σ[k]'hk, (List.set_getElem_self hk).symm⟩, fun _ _ h _ => h, hp⟩ (fun i σ' H' _ p => SqL.of (p.2.1 _ _ hD nD)) ?_ ?_
  · rintro i x σ' H' hx ⟨⟨c, rfl⟩, f, hp'⟩
    rw [List.getElem?_map] at hx
    cases e : ps[i]? with
    | none => rw [e] at hx; cases hx
    | some p =>
      rw [e] at hx
      cases hx
      have hm := List.mem_of_getElem? e
      obtain ⟨ys, hy⟩ := hp' p hm
      have hv : Pu (tVar k) ((σ.set k c).set k (some (.ref p))) H' (.ref p) := pu_v (by simp [hk])
      dsimp only [gName, tDrop, tBM0]
      refine hv _ ⟨.inl ⟨rfl, _, SqL.of hy⟩, p, ys, rfl, rfl, hy, ⟨some (.ref p), by rw [List.set_set]⟩, f.trans (SameB.upd.fw hm), fun p' hp2 => ?_⟩
      by_cases z : p' = p
      · exact ⟨_, by rw [z]; exact upd_same⟩
      · rw [upd_ne z]; exact hp' p' hp2
  · rintro σ' H' ⟨⟨c, rfl⟩, f, hp'⟩
    exact q H' c f hp'
theorem laid_rg {H H' : Hp} {ds : List D} {n : Nat} {r : V} (h : Laid (RowI ds) H n r H') (e : n = ds.length) : Same H H' ∧ ∃ D ps, r = .ref D ∧ RgA H' D ps ds ∧ H D = none ∧ D ∉ ps ∧ ∀ p ∈ ps, H p = none := by
  obtain ⟨s, D, ps, rfl, hD, hD', hl, hr⟩ := h
  refine ⟨s, D, ps, rfl, ⟨hD', by rw [hl, e], fun i p hp => (hr i p hp).1⟩, hD, fun hm => ?_, fun p hm => ?_⟩
  · obtain ⟨i, hi⟩ := List.getElem?_of_mem hm
    exact (hr i D hi).2.1 rfl
  · obtain ⟨i, hi⟩ := List.getElem?_of_mem hm
    exact (hr i p hi).2.2
/-- [list(r) for r in rings] -/
theorem gv_rings {σ : L2.St} {H : Hp} {tl : TE} {l : Addr} {as : List Addr} {ds : List D} (hl : Pu tl σ H (.ref l)) (h : RgA H l as ds) (h4 : ds.length ≤ 4) :
    Gv (tComp (iList K tl) (fun _ => [none]) (gName 0) (tCB (fun xs H Q => ∃ p ys, xs = [.ref p] ∧ (SqL K H p ys ∨ SqT K H p ys) ∧ ∀ l, H l = none → Q (.ref l) (upd H l (.lst ys))) (tCons (tVar 0) tNil))) σ H (fun r H' => Same H H' ∧ ∃ D ps, r = .ref D ∧ RgA H' D ps ds ∧ H D = none ∧ D ∉ ps ∧ ∀ p ∈ ps, H p = none) := by
  refine (gv_compLG (stays_rowI ds) hl h.1 (by rw [List.length_map, h.2.1]; omega) (fun _ => KeepS.none1) fun i x H2 ex s2 => ?_).imp fun r H' z => laid_rg z (by rw [List.length_map, h.2.1])
  rw [List.getElem?_map] at ex
  cases e : as[i]? with
  | none => rw [e] at ex; cases ex
  | some p =>
    rw [e] at ex
    cases ex
    obtain ⟨nss, xs, e1, e2, e3⟩ := h.2.2 i p e
    have s3 : ∀ {q : Addr} {o : HO}, H2 q = none → Same H2 (upd H2 q o) := fun h => Same.upd h
    exact fun Q q => (pa_c (pu_v rfl) pa_n : PuA (tCons (tVar 0) tNil) _ _ [.ref p]) _ ⟨p, _, rfl, .inl (SqL.of (s2 _ _ e2)), fun p' hp => q _ _ ⟨Same.upd hp, p', rfl, hp, nss, xs, e1, upd_same, e3.mono fun _ _ t => t.same (s2.trans (Same.upd hp))⟩⟩
def sp_l_taken : Sp := fun vs H Q _ => ∃ (hd : Addr) (v : V) (d : D) (zs : List V), vs = [v] ∧ H hd = some (.lst zs) ∧ DAt hd H v d ∧ layF d = none ∧ ∀ H', Same H H' → Q (.bl true) H'
theorem sc_l_taken : FnScope ["_law_rings", "_law_handed", "_law_found", "_law_ring_here"] ["_law_rings"] (defScope s_l_taken) := ⟨rfl, rfl, rfl, by decide +kernel, rfl, by decide +kernel, by decide +kernel⟩
theorem ok_l_taken (T : Txt K mg t) : FnOk P w K mg base CX0 6 t.f_l_taken t.d_l_taken ["_law_rings"] sp_l_taken := by
  refine T.l_taken.F.ok (k := 5) sc_l_taken (fun vs H Q E h => ?_) (fun cdv A outer s H vs Q E hr h => ?_)
  · obtain ⟨hd, v, d, zs, rfl, _⟩ := h
    rfl
  · obtain ⟨hd, v, d, zs, rfl, hhd, hv, hlay, k⟩ := h
    refine ⟨_, (@pss_cons _ _ _ _ _ (@ps_setC _ 1 _ _ _ _ _ _ _ _ _ sc_l_taken.nd rfl rfl (@cr_lcomp _ _ _ _ _ [] _ ["_law_ring_here"] _ (fun _ => [none]) _ _ rfl (@pi_list _ _ _ _ (pv 0)) (fun _ _ _ _ => pg_name (i := 0) (List.nodup_cons.mpr ⟨fun h => (nomatch h), List.nodup_nil⟩) rfl (Or.inl rfl) (.inr rfl)) (fun _ _ _ _ => (@pe_callTy _ _ _ _ _ _ _ _ _ (call_list_ofK (K := K) rfl) (by rfl) T.b_list PyProof.Rows.boot_list (@pa_cons _ _ _ _ _ (pv 0) (@pa_nil _) star_name) (by decide) (by decide) (by rfl) (by rfl))) (closureFor_none (by decide +kernel)) rfl (by decide +kernel) (by decide +kernel) (fun _ _ h => by cases h) (noCells (by rfl)) (fun _ _ => rfl) (fun _ i _ _ _ h => by cases i with | zero => cases h | succ i => simp at h) (by intro _; rfl)) (by rfl)) (@pss_cons _ _ _ _ _ (@ps_set _ _ 2 _ _ _ _ sc_l_taken.nd rfl (Or.inl rfl) (@pe_fnD _ _ _ _ _ _ _ _ _ _ _ _ _ _ _ _ _ T.layer_of (okx_layer_of T) hr (by decide) passD0 (@pa_cons _ _ _ _ _ (pv 1) (@pa_nil _) star_name) (by rfl) (by decide) (by rfl) (by rfl)) (by rfl) (by first | exact .inl rfl | exact .inr rfl | assumption)) (@pss_cons _ _ _ _ _ (@ps_if _ _ _ _ _ _ _ _ (PW.pt (@pw_or _ _ _ _ _ _ _ (@pt_not _ _ _ _ (@pt_val _ _ _ (@pe_fn _ _ _ _ _ _ _ _ _ _ _ _ _ _ T.l_alike (ok_l_alike T) hr (by decide) (@pa_cons _ _ _ _ _ (pv 2) (@pa_cons _ _ _ _ _ (pv 0) (@pa_nil _) star_name) star_name) (by rfl) (by decide) (by rfl) (by rfl)) (by intro _; rfl))) (@pw_or1 _ _ _ _ (@pt_cmpR _ _ _ _ _ _ _ _ (op_neS hr.units) (pv 1) (pv 0) (nomark _))))) (@pss_one _ _ _ (@ps_ret _ _ _ _ (@pe_bl _ _ _ _))) (@pss_nil _)) (@pss_cons _ _ _ _ _ (@ps_for _ _ _ _ _ _ _ _ PassesOwn.never rfl (@pi_list _ _ _ _ (pv 1)) (@pg_name _ _ 3 _ sc_l_taken.nd rfl (Or.inl rfl) (by first | exact .inl rfl | exact .inr rfl | assumption)) (@pss_one _ _ _ (@ps_expr _ _ _ _ (@pe_bm0 _ _ _ _ _ _ _ _ _ PySem.F.plainAttrs_list PySem.F.slot_list_clear PySem.F.type_list_clear mt_clear (pv 3) (by rfl) (by rfl)) (by rfl))) (by intro _; rfl)) (@pss_cons _ _ _ _ _ (@ps_if _ _ _ _ _ _ _ _ (@pt_not _ _ _ _ (@pt_val _ _ _ (@pe_fn _ _ _ _ _ _ _ _ _ _ _ _ _ _ T.l_alike (ok_l_alike T) hr (by decide) (@pa_cons _ _ _ _ _ (pv 2) (@pa_cons _ _ _ _ _ (pv 0) (@pa_nil _) star_name) star_name) (by rfl) (by decide) (by rfl) (by rfl)) (by intro _; rfl))) (@pss_one _ _ _ (@ps_ret _ _ _ _ (@pe_bl _ _ _ _))) (@pss_nil _)) (@pss_cons _ _ _ _ _ (@ps_for _ _ _ _ _ _ _ _ PassesOwn.never rfl (@pi_list _ _ _ _ (pv 2)) (@pg_name _ _ 3 _ sc_l_taken.nd rfl (Or.inl rfl) (by first | exact .inl rfl | exact .inr rfl | assumption)) (@pss_one _ _ _ (@ps_expr _ _ _ _ (@pe_bm0 _ _ _ _ _ _ _ _ _ PySem.F.plainAttrs_list PySem.F.slot_list_clear PySem.F.type_list_clear mt_clear (pv 3) (by rfl) (by rfl)) (by rfl))) (by intro _; rfl)) (@pss_cons _ _ _ _ _ (@ps_expr _ _ _ _ (@pe_bm _ _ _ _ _ _ _ _ _ _ _ _ PySem.F.plainAttrs_list PySem.F.slot_list_append PySem.F.type_list_append mt_append (pv 2) (@pa_cons _ _ _ _ _ (@pe_int _ _ _ _) (@pa_nil _) star_con) (by rfl) (by rfl) (by rfl) (by rfl) (by rfl)) (by rfl)) (@pss_one _ _ _ (@ps_ret _ _ _ _ (@pe_fn _ _ _ _ _ _ _ _ _ _ _ _ _ _ T.l_alike (ok_l_alike T) hr (by decide) (@pa_cons _ _ _ _ _ (@pe_fnD _ _ _ _ _ _ _ _ _ _ _ _ _ _ _ _ _ T.layer_of (okx_layer_of T) hr (by decide) passD0 (@pa_cons _ _ _ _ _ (@pe_lcomp _ _ _ _ _ [] _ ["_law_ring_here"] _ (fun _ => [none]) _ _ rfl (@pi_list _ _ _ _ (pv 0)) (fun _ _ _ _ => pg_name (i := 0) (List.nodup_cons.mpr ⟨fun h => (nomatch h), List.nodup_nil⟩) rfl (Or.inl rfl) (.inr rfl)) (fun _ _ _ _ => (@pe_callTy _ _ _ _ _ _ _ _ _ (call_list_ofK (K := K) rfl) (by rfl) T.b_list PyProof.Rows.boot_list (@pa_cons _ _ _ _ _ (pv 0) (@pa_nil _) star_name) (by decide) (by decide) (by rfl) (by rfl))) (closureFor_none (by decide +kernel)) rfl (by decide +kernel) (by decide +kernel) (fun _ _ h => by cases h) (noCells (by rfl)) (fun _ _ => rfl) (fun _ i _ _ _ h => by cases i with | zero => cases h | succ i => simp at h) (by intro _; rfl)) (@pa_nil _) star_lc) (by rfl) (by decide) (by rfl) (by rfl)) (@pa_cons _ _ _ _ _ (pv 0) (@pa_nil _) star_name) star_call) (by rfl) (by decide) (by rfl) (by rfl))))))))))), ?_⟩
    obtain ⟨l, as, ds, rfl, rfl, rg, good, n1, n4⟩ := rg_of hv hlay
    have AL : ∀ {σ : L2.St} {H' : Hp} {ta : TA} {f : Addr} {ps : List Addr}, PuA ta σ H' [.ref f, .ref l] → RgA H' f ps ds → RgA H' l as ds → Gv (tCall sp_l_alike [] E0 ta) σ H' (fun v H2 => v = .bl true ∧ Same H' H2) := fun ha h1 h2 => gv_call ha fun Q q => ⟨_, _, _, _, ds, rfl, h1, h2, good, n4, fun H2 s => q _ _ ⟨rfl, s⟩⟩
    have LO : ∀ {σ : L2.St} {H' : Hp} {ta : TA} {f : Addr} {ps : List Addr} {zs : List V}, PuA ta σ H' [.ref f] → RgA H' f ps ds → H' hd = some (.lst zs) → f ≠ hd → (∀ p ∈ ps, p ≠ hd) → Gv (tCall (spx_layer_of t) [] E0 ta) σ H' (fun r H2 => Same H' H2 ∧ ∃ D ps, r = .ref D ∧ RgA H2 D ps ds ∧ H' D = none ∧ D ∉ ps ∧ ∀ p ∈ ps, H' p = none) := fun ha h1 h2 h3 h4 => gv_call ha fun Q q => ⟨hd, _, _, rfl, rg_dat h1 h3 h4, fun ds' r H2 e _ L => by cases e; exact q _ _ (laid_rg L rfl), fun a b dx H2 e => by rw [hlay] at e; cases e⟩
    refine st_setG (gv_rings (pu_v rfl) rg n4) ?_
    rintro _ H1 ⟨s1, D1, ps1, rfl, rg1, hD1, nD1, np1⟩
    have nh : ∀ {a : Addr}, H a = none → a ≠ hd := fun h e => by rw [e, hhd] at h; cases h
    refine st_setG (LO (pa_c (pu_v rfl) pa_n) rg1 (s1 _ _ hhd) (nh hD1) fun p hp => nh (np1 p hp)) ?_
    rintro _ H2 ⟨s2, D2, ps2, rfl, rg2, hD2, nD2, np2⟩
    have s02 := s1.trans s2
    refine st_ifNG (R := fun b H3 => b = false ∧ Same H2 H3) (gt_or (R := fun b H3 => b = false ∧ Same H2 H3) ((gt_n (R := fun b H3 => b = true ∧ Same H2 H3) ((gt_b (R := fun v H3 => v = .bl true ∧ Same H2 H3) (AL (pa_c (pu_v rfl) (pa_c (pu_v rfl) pa_n)) rg2 (rg.same s02)) (fun v H3 r => ⟨_, r.1⟩)).imp fun b H3 r => ⟨by have := r.1; cases this; rfl, r.2⟩)).imp fun b H3 r => ⟨by have := r.1; simpa using this, r.2⟩) (fun H3 r => PuT.gt (pt_t (pu_neS (pu_v rfl) (pu_v rfl) ((rg1.same (s2.trans r.2)).dat) ((rg.same (s02.trans r.2)).dat))) ⟨rfl, r.2⟩) (fun H3 r => by cases r.1)) (fun H3 r => by cases r.1) (fun H3 r => ?_)
    have s3 := r.2
    have s03 := s02.trans s3
    have rg3 := rg.same s03
    have rg13 := rg1.same (s2.trans s3)
    have rg23 := rg2.same s3
    have ao : ∀ a ∈ as, H a ≠ none := fun a ha e => by
      obtain ⟨ys, z⟩ := rg.on a ha
      rw [e] at z; cases z
    have lo : H l ≠ none := by rw [rg.1]; exact fun z => by cases z
    refine st_clears (k := 3) (pu_v rfl) (by show 3 < 4; decide) rg13.1 nD1 rg13.on fun H4 c f4 on4 => ?_
    have rg4 := rg3.fw f4 rg13.on (fun h => lo (np1 l h)) (fun a ha h => ao a ha (np1 a h))
    have h1n : ∀ {a : Addr}, H1 a = none → a ∉ ps1 := fun h hm => by
      obtain ⟨ys, z⟩ := rg1.on _ hm
      rw [h] at z; cases z
    have rg24 := rg23.fw f4 rg13.on (h1n hD2) (fun a ha => h1n (np2 a ha))
    refine st_ifNG (R := fun b H5 => b = false ∧ Same H4 H5) ((gt_n (R := fun b H3 => b = true ∧ Same H4 H3) ((gt_b (R := fun v H3 => v = .bl true ∧ Same H4 H3) (AL (pa_c (pu_v rfl) (pa_c (pu_v rfl) pa_n)) rg24 rg4) (fun v H3 r => ⟨_, r.1⟩)).imp fun b H3 r => ⟨by have := r.1; cases this; rfl, r.2⟩)).imp fun b H3 r => ⟨by have := r.1; simpa using this, r.2⟩) (fun H5 r => by cases r.1) (fun H5 r => ?_)
    have s5 := r.2
    have rg5 := rg4.same s5
    have rg25 := rg24.same s5
    refine st_clears (k := 3) (pu_v rfl) (by show 3 < 4; decide) rg25.1 nD2 rg25.on fun H6 c6 f6 on6 => ?_
    have h2n : ∀ {a : Addr}, H a ≠ none → a ∉ ps2 := fun h hm => h (same_none s1 (np2 _ hm))
    have rg6 := rg5.fw f6 rg25.on (h2n lo) (fun a ha => h2n (ao a ha))
    have hD6 := f6 _ _ rg25.1 nD2
    have c4 : ps2.length ≤ 4 := by rw [rg2.2.1]; exact n4
    refine st_app (xs := ps2.map V.ref) (R := fun v H7 => H7 = H6 ∧ v = .int 3) (pu_v rfl) hD6 (pu_c.gv' ⟨rfl, rfl⟩) ?_
    rintro _ H7 ⟨rfl, rfl⟩
    refine ⟨_, hD6, Nat.lt_of_le_of_lt (show _ ≤ 1000 by rw [List.length_map]; omega) (by decide), ?_⟩
    have s0 : Same H (upd H7 D2 (.lst (ps2.map V.ref ++ [.int 3]))) := fun b o hb => by
      have hb0 : H b ≠ none := by rw [hb]; exact fun z => by cases z
      rw [upd_ne (fun e => hb0 (by rw [e]; exact same_none s1 hD2))]
      exact f6 _ _ (s5 _ _ (f4 _ _ (s03 _ _ hb) fun h => hb0 (np1 b h))) (h2n hb0)
    have rg7 := rg.same s0
    have hd7 := s0 _ _ hhd
    generalize upd H7 D2 (.lst (ps2.map V.ref ++ [.int 3])) = H8 at s0 rg7 hd7 ⊢
    refine st_retG (R := fun v H9 => v = .bl true ∧ Same H H9) (gv_callA (RA := fun vs H9 => ∃ f ps, vs = [.ref f, .ref l] ∧ RgA H9 f ps ds ∧ Same H8 H9) (fun Q g => ?_) fun vs H9 z Q q => ?_) fun v H9 r => by obtain ⟨rfl, s⟩ := r; exact k _ s
    · dsimp only [tCons, tNil]
      have GL : Gv (tCall (spx_layer_of t) [] E0 (tCons (tComp (iList K (tVar 0)) (fun _ => [none]) (gName 0) (tCB (fun xs H Q => ∃ p ys, xs = [.ref p] ∧ (SqL K H p ys ∨ SqT K H p ys) ∧ ∀ l, H l = none → Q (.ref l) (upd H l (.lst ys))) (tCons (tVar 0) tNil))) tNil)) ((([some (V.ref l), some (.ref D1), some (.ref D2), none].set 3 c)).set 3 c6) H8 (fun r H2 => ∃ D ps, r = .ref D ∧ RgA H2 D ps ds ∧ Same H8 H2) := by
        refine gv_callA (RA := fun vs H9 => ∃ f ps, vs = [.ref f] ∧ Same H8 H9 ∧ RgA H9 f ps ds ∧ H8 f = none ∧ ∀ p ∈ ps, H8 p = none) (fun Q g => gv_rings (pu_v rfl) rg7 n4 _ fun r H9 z => ?_) fun vs H9 z Q q => ?_
        · obtain ⟨s9, D, ps, rfl, r9, e1, e2, e3⟩ := z
          exact g _ _ ⟨D, ps, rfl, s9, r9, e1, e3⟩
        · obtain ⟨f, ps, rfl, s9, r9, e1, e3⟩ := z
          have n8 : ∀ {a : Addr}, H8 a = none → a ≠ hd := fun h e => by rw [e, hd7] at h; cases h
          refine ⟨hd, _, _, rfl, rg_dat r9 (n8 e1) fun p hp => n8 (e3 p hp), fun ds' r H2 e _ L => ?_, fun a b dx H2 e => by rw [hlay] at e; cases e⟩
          cases e
          obtain ⟨s10, D, ps', rfl, r10, _⟩ := laid_rg L rfl
          exact q _ _ ⟨D, ps', rfl, r10, s9.trans s10⟩
      refine GL _ fun r H9 z => ?_
      obtain ⟨D, ps, rfl, r9, s9⟩ := z
      exact pu_v rfl _ (g _ _ ⟨D, ps, rfl, r9, s9⟩)
    · obtain ⟨f, ps, rfl, r9, s9⟩ := z
      exact ⟨f, l, ps, as, ds, rfl, r9, rg7.same s9, good, n4, fun H' s => q _ _ ⟨rfl, s0.trans (s9.trans s)⟩⟩
def sp_law (K : PySem.W.Frag) : Sp := fun vs H Q _ => ∃ (a : Addr) (ns : List Int), vs = [.ref a] ∧ SqL K H a (ns.map V.int) ∧ ns.length ≤ 63 ∧ ∀ H', Q (.bl true) H'
theorem good_ring {nss : List (List Int)} (g : GoodR nss) (h3 : 3 ≤ nss.length) (h12 : nss.length ≤ 12) (hne : nss.head? ≠ nss.getLast?) : ringF (.lst (nss.map fun ns => .tup (ns.map D.int))) = none := by
  show (if 3 ≤ (nss.map fun ns => D.tup (ns.map D.int)).length ∧ (nss.map fun ns => D.tup (ns.map D.int)).length ≤ 12 then rf ((nss.map fun ns => D.tup (ns.map D.int)).map lpL) else some 0) = none
  rw [List.length_map, if_pos ⟨h3, h12⟩, List.map_map]
  have e : nss.map (lpL ∘ fun ns => D.tup (ns.map D.int)) = nss.map some := List.map_congr_left fun ns hn => lpL_of (g.lp ns hn)
  rw [e, rf_end, List.head?_map, List.getLast?_map, if_neg]
  · intro z
    cases h1 : nss.head? with
    | none => exact hne (by rw [h1]; cases nss with | nil => rfl | cons _ _ => cases h1)
    | some a =>
      cases h2 : nss.getLast? with
      | none => rw [h1, h2] at z; cases z
      | some b => rw [h1, h2] at z; simp at z; exact hne (by rw [h1, h2, z])
  · intro j hj
    rw [List.length_map] at hj
    unfold badAt
    rw [List.getElem?_map, List.getElem?_eq_getElem hj]
    show (decide (0 < j) && decide ((nss.map some)[j - 1]? = some (some nss[j]))) = false
    cases j with
    | zero => rfl
    | succ j =>
      rw [Nat.add_sub_cancel, List.getElem?_map, List.getElem?_eq_getElem (by omega : j < nss.length)]
      have := g.ne j _ _ (List.getElem?_eq_getElem (by omega)) (List.getElem?_eq_getElem hj)
      simpa using this
theorem RgA.snoc {H : Hp} {l : Addr} {as : List Addr} {ds : List D} {p : Addr} {ys : List V} {nss : List (List Int)} (h : RgA H l as ds) (na : l ∉ as) (np : p ≠ l) (hp : H p = some (.lst ys)) (ht : TupsT H ys nss) : RgA (upd H l (.lst (as.map V.ref ++ [.ref p]))) l (as ++ [p]) (ds ++ [.lst (nss.map fun ns => .tup (ns.map D.int))]) := by
  have s : SameB l H (upd H l (.lst (as.map V.ref ++ [.ref p]))) := SameB.upd
  have T2 : ∀ {xs : List V} {mss : List (List Int)}, TupsT H xs mss → TupsT (upd H l (.lst (as.map V.ref ++ [.ref p]))) xs mss := fun t => t.mono fun _ _ t => t.sameB s h.1
  refine ⟨by rw [upd_same, List.map_append]; rfl, by rw [List.length_append, List.length_append, h.2.1]; rfl, fun i q hq => ?_⟩
  by_cases hi : i < as.length
  · rw [List.getElem?_append_left hi] at hq
    obtain ⟨mss, xs, e1, e2, e3⟩ := h.2.2 i q hq
    exact ⟨mss, xs, by rw [List.getElem?_append_left (by rw [← h.2.1]; exact hi)]; exact e1, s _ _ e2 (fun e => na (e ▸ List.mem_of_getElem? hq)), T2 e3⟩
  · rw [List.getElem?_append_right (by omega)] at hq
    have ej : i - as.length = 0 := by
      rcases Nat.eq_zero_or_pos (i - as.length) with e | e
      · exact e
      · rw [List.getElem?_eq_none (by simp; omega)] at hq; cases hq
    rw [ej] at hq
    have e2 : p = q := by simpa using hq
    subst e2
    exact ⟨nss, ys, by rw [List.getElem?_append_right (by rw [← h.2.1]; omega), show i - ds.length = 0 by rw [← h.2.1]; exact ej]; rfl, s _ _ hp np, T2 ht⟩
/-- [list(r) for r in rings], each list its own -/
theorem gv_ringsD {σ : L2.St} {H : Hp} {tl : TE} {l : Addr} {as : List Addr} {ds : List D} (hl : Pu tl σ H (.ref l)) (h : RgA H l as ds) (h4 : ds.length ≤ 4) :
    Gv (tComp (iList K tl) (fun _ => [none]) (gName 0) (tCB (fun xs H Q => ∃ p ys, xs = [.ref p] ∧ (SqL K H p ys ∨ SqT K H p ys) ∧ ∀ l, H l = none → Q (.ref l) (upd H l (.lst ys))) (tCons (tVar 0) tNil))) σ H (fun r H' => Same H H' ∧ ∃ D ps, r = .ref D ∧ RgA H' D ps ds ∧ H D = none ∧ D ∉ ps ∧ (∀ p ∈ ps, H p = none) ∧ ps.Nodup) := by
  intro Q g
  have ha := h.1
  have al : (as.map V.ref).length = ds.length := by rw [List.length_map]; exact h.2.1
  refine hl _ ⟨l, rfl, ⟨_, SqL.of ha⟩, fun D hD => ?_⟩
  refine ⟨fun i m ys H2 => m = (as.map V.ref).length - i ∧ i ≤ (as.map V.ref).length ∧ Same H H2 ∧ ∃ ps : List Addr, ys = ps.map V.ref ∧ H2 D = some (.lst ys) ∧ ps.length = i ∧ (∀ i p, ps[i]? = some p → RowI ds H2 i p ∧ p ≠ D ∧ H p = none) ∧ ps.Nodup, ⟨_, rfl, Nat.zero_le _, Same.upd hD, [], rfl, upd_same, rfl, fun i p h => by simp at h, List.nodup_nil⟩, ?_⟩
  rintro i m ys H2 ⟨rfl, hi, s2, ps, rfl, hD2, hpl, hps, hnd⟩
  by_cases hlt : i < (as.map V.ref).length
  · refine .inr ⟨⟨_, (as.map V.ref)[i], SqL.of (s2 _ _ ha), by simp [hlt]⟩, ?_, fun x H3 y => ?_⟩
    · rw [List.length_map]; exact small1000 (by omega)
    obtain ⟨e, y⟩ := y
    subst e
    have ex := y _ (SqL.of (s2 _ _ ha))
    rw [List.getElem?_map] at ex
    cases e : as[i]? with
    | none => rw [e] at ex; cases ex
    | some a =>
      rw [e] at ex
      cases ex
      obtain ⟨nss, xs, e1, e2, e3⟩ := h.2.2 i a e
      refine ⟨KeepS.none1, (pa_c (pu_v rfl) pa_n : PuA (tCons (tVar 0) tNil) _ _ [.ref a]) _ ⟨a, _, rfl, .inl (SqL.of (s2 _ _ e2)), fun p hp => ?_⟩⟩
      have sp : Same H3 (upd H3 p (.lst xs)) := Same.upd hp
      obtain ⟨d4, s5, h5⟩ := laid_step (stays_rowI ds) hD s2 hD2 hpl hps (fun _ _ z => z) sp hp ⟨nss, xs, e1, upd_same, e3.mono fun _ _ t => t.same (s2.trans sp)⟩
      refine ⟨d4, _, by omega, rfl, hlt, by simpa using s5, ps ++ [p], by simp, upd_same, by simp [hpl], by simpa using h5, ?_⟩
      rw [List.nodup_append]
      refine ⟨hnd, by simp, fun b hb c hc => ?_⟩
      rw [List.mem_singleton.mp hc]
      obtain ⟨j, hj⟩ := List.getElem?_of_mem hb
      intro z
      subst z
      exact (stays_rowI ds).here (hps j b hj).1 hp
  · have e : i = (as.map V.ref).length := by omega
    subst e
    refine .inl ⟨⟨_, SqL.of (s2 _ _ ha), Nat.le_refl _⟩, g _ _ ⟨s2, D, ps, rfl, ⟨hD2, by rw [hpl, al], fun i p hp => (hps i p hp).1⟩, hD, fun hm => ?_, fun p hm => ?_, hnd⟩⟩
    · obtain ⟨j, hj⟩ := List.getElem?_of_mem hm
      exact (hps j D hj).2.1 rfl
    · obtain ⟨j, hj⟩ := List.getElem?_of_mem hm
      exact (hps j p hj).2.2
theorem Th.dat {hd sc T : Addr} {W : Addr → Prop} {H : Hp} {xs : List V} {ds : List D} (h : Th hd sc T W H xs ds) : DAt hd H (.ref T) (.lst ds) := by
  refine .lst h.hT h.nt ?_
  have key : ∀ {xs : List V} {ds : List D}, xs.length = ds.length → (∀ (i : Nat) x d, xs[i]? = some x → ds[i]? = some d → DAt hd H x d) → DsAt hd H xs ds := by
    intro xs
    induction xs with
    | nil =>
      intro ds hl _
      cases ds with
      | nil => exact .nil
      | cons _ _ => cases hl
    | cons x xs ih =>
      intro ds hl hr
      cases ds with
      | nil => cases hl
      | cons d ds => exact .cons (hr 0 x d rfl rfl) (ih (Nat.succ.inj hl) fun i x d hx hd => hr (i + 1) x d hx hd)
  refine key h.len fun i x d hx hd' => ?_
  rcases h.el i x d hx hd' with ⟨p, ys, es, rfl, rfl, e3, e4, e5, e6, e7, e8⟩ | ⟨e1, e2⟩
  · exact .lst e3 e5 (e8 _ h.wh)
  · exact e2 _ h.wh
theorem pt_isN {σ : L2.St} {H : Hp} {ta : TE} {v : V} {b : Bool} (h : Pu ta σ H v) (e : decide (v = .non) = b) : PuT (tTest (tOp (fun x y H Q => y = .non ∧ Q (.bl (decide (x = .non))) H) ta (tC .non))) σ H b := pt_t (fun Q q => h _ ⟨rfl, by rw [e]; exact q⟩)
theorem pt_ntN {σ : L2.St} {H : Hp} {ta : TE} {v : V} {b : Bool} (h : Pu ta σ H v) (e : (!decide (v = .non)) = b) : PuT (tTest (tOp (fun x y H Q => y = .non ∧ Q (.bl (!decide (x = .non))) H) ta (tC .non))) σ H b := pt_t (fun Q q => h _ ⟨rfl, by rw [e]; exact q⟩)
theorem st_ifK {σ : L2.St} {H : Hp} {E : Ends} {rest : TS} {tc : TT} {t : TS} {P : L2.St → Hp → Prop} {RB : Bool → Hp → Prop} (hc : GvT tc σ H RB) (h1 : ∀ H', RB true H' → (∀ σ' H'', P σ' H'' → rest E σ' H'') → t { E with nx := rest E } σ H') (h0 : ∀ H', RB false H' → P σ H') (q : ∀ σ' H', P σ' H' → rest E σ' H') : tSeq (tIfS tc t tNext) rest E σ H :=
  st_ifNG hc (fun H' r => h1 H' r q) fun H' r => q _ _ (h0 H' r)
theorem sc_law : FnScope ["_law_script", "_law_hand_here", "_law_rings", "_law_k", "_law_thing", "_law_some", "_law_kept", "_law_due"] ["_law_script"] (defScope s_law) := ⟨rfl, rfl, rfl, by decide +kernel, rfl, by decide +kernel, by decide +kernel⟩
theorem ok_law (T : Txt K mg t) : FnOk P w K mg base CX0 7 t.f_law t.d_law ["_law_script"] (sp_law K) := by
  refine T.law.F.ok (k := 6) sc_law (fun vs H Q E h => ?_) (fun cdv A outer s H vs Q E hr h => ?_)
  · obtain ⟨a, ns, rfl, _⟩ := h
    rfl
  · obtain ⟨a, ns, rfl, hS, hlen, k⟩ := h
    refine ⟨_, (@pss_cons _ _ _ _ _ (@ps_set _ _ 1 _ _ _ _ sc_law.nd rfl (Or.inl rfl) (@pe_fn _ _ _ _ _ _ _ _ _ _ _ _ _ _ T.l_hand (ok_l_hand T) hr (by decide) (@pa_cons _ _ _ _ _ (pv 0) (@pa_nil _) star_name) (by rfl) (by decide) (by rfl) (by rfl)) (by rfl) (by first | exact .inl rfl | exact .inr rfl | assumption)) (@pss_cons _ _ _ _ _ (@ps_set _ _ 2 _ _ _ _ sc_law.nd rfl (Or.inl rfl) (@pe_lst _ _ _ _ (@pa_nil _)) (by rfl) (by first | exact .inl rfl | exact .inr rfl | assumption)) (@pss_cons _ _ _ _ _ (@ps_for _ _ _ _ _ _ _ _ PassesOwn.never rfl (@pi_range1 _ _ _ _ _ _ rfl T.b_range (@pa_cons _ _ _ _ _ (@pe_op _ _ _ _ _ _ _ _ op_add (@pe_int _ _ _ _) (@pe_fn _ _ _ _ _ _ _ _ _ _ _ _ _ _ T.l_draw (ok_l_draw T) hr (by decide) (@pa_cons _ _ _ _ _ (pv 1) (@pa_cons _ _ _ _ _ (@pe_int _ _ _ _) (@pa_nil _) star_con) star_name) (by rfl) (by decide) (by rfl) (by rfl))) (@pa_nil _) star_bin) (by rfl)) (@pg_name _ _ 3 _ sc_law.nd rfl (Or.inl rfl) (by first | exact .inl rfl | exact .inr rfl | assumption)) (@pss_one _ _ _ (@ps_expr _ _ _ _ (@pe_bm _ _ _ _ _ _ _ _ _ _ _ _ PySem.F.plainAttrs_list PySem.F.slot_list_append PySem.F.type_list_append mt_append (pv 2) (@pa_cons _ _ _ _ _ (@pe_fn _ _ _ _ _ _ _ _ _ _ _ _ _ _ T.l_ring (ok_l_ring T) hr (by decide) (@pa_cons _ _ _ _ _ (pv 1) (@pa_cons _ _ _ _ _ (@pe_op _ _ _ _ _ _ _ _ op_add (@pe_int _ _ _ _) (@pe_fn _ _ _ _ _ _ _ _ _ _ _ _ _ _ T.l_draw (ok_l_draw T) hr (by decide) (@pa_cons _ _ _ _ _ (pv 1) (@pa_cons _ _ _ _ _ (@pe_ix _ _ _ _ _ _ _ ix_list (@pe_lst _ _ _ _ (@pa_cons _ _ _ _ _ (@pe_int _ _ _ _) (@pa_cons _ _ _ _ _ (@pe_int _ _ _ _) (@pa_cons _ _ _ _ _ (@pe_int _ _ _ _) (@pa_nil _) star_con) star_con) star_con)) (@pe_fn _ _ _ _ _ _ _ _ _ _ _ _ _ _ T.l_draw (ok_l_draw T) hr (by decide) (@pa_cons _ _ _ _ _ (pv 1) (@pa_cons _ _ _ _ _ (@pe_int _ _ _ _) (@pa_nil _) star_con) star_name) (by rfl) (by decide) (by rfl) (by rfl)) (fun _ _ => rfl)) (@pa_nil _) star_sub) star_name) (by rfl) (by decide) (by rfl) (by rfl))) (@pa_nil _) star_bin) star_name) (by rfl) (by decide) (by rfl) (by rfl)) (@pa_nil _) star_call) (by rfl) (by rfl) (by rfl) (by rfl) (by rfl)) (by rfl))) (by intro _; rfl)) (@pss_cons _ _ _ _ _ (@ps_setC _ 4 _ _ _ _ _ _ _ _ _ sc_law.nd rfl rfl (@cr_lcomp _ _ _ _ _ [] _ ["_law_ring_here"] _ (fun _ => [none]) _ _ rfl (@pi_list _ _ _ _ (pv 2)) (fun _ _ _ _ => pg_name (i := 0) (List.nodup_cons.mpr ⟨fun h => (nomatch h), List.nodup_nil⟩) rfl (Or.inl rfl) (.inr rfl)) (fun _ _ _ _ => (@pe_callTy _ _ _ _ _ _ _ _ _ (call_list_ofK (K := K) rfl) (by rfl) T.b_list PyProof.Rows.boot_list (@pa_cons _ _ _ _ _ (pv 0) (@pa_nil _) star_name) (by decide) (by decide) (by rfl) (by rfl))) (closureFor_none (by decide +kernel)) rfl (by decide +kernel) (by decide +kernel) (fun _ _ h => by cases h) (noCells (by rfl)) (fun _ _ => rfl) (fun _ i _ _ _ h => by cases i with | zero => cases h | succ i => simp at h) (by intro _; rfl)) (by rfl)) (@pss_cons _ _ _ _ _ (@ps_for _ _ _ _ _ _ _ _ PassesOwn.never rfl (@pi_range1 _ _ _ _ _ _ rfl T.b_range (@pa_cons _ _ _ _ _ (@pe_fn _ _ _ _ _ _ _ _ _ _ _ _ _ _ T.l_draw (ok_l_draw T) hr (by decide) (@pa_cons _ _ _ _ _ (pv 1) (@pa_cons _ _ _ _ _ (@pe_int _ _ _ _) (@pa_nil _) star_con) star_name) (by rfl) (by decide) (by rfl) (by rfl)) (@pa_nil _) star_call) (by rfl)) (@pg_name _ _ 3 _ sc_law.nd rfl (Or.inl rfl) (by first | exact .inl rfl | exact .inr rfl | assumption)) (@pss_one _ _ _ (@ps_expr _ _ _ _ (@pe_fn _ _ _ _ _ _ _ _ _ _ _ _ _ _ T.l_spoil (ok_l_spoil T) hr (by decide) (@pa_cons _ _ _ _ _ (pv 1) (@pa_cons _ _ _ _ _ (pv 4) (@pa_nil _) star_name) star_name) (by rfl) (by decide) (by rfl) (by rfl)) (by rfl))) (by intro _; rfl)) (@pss_cons _ _ _ _ _ (@ps_if _ _ _ _ _ _ _ _ (@pt_cmpR _ _ _ _ _ _ _ _ op_eq (@pe_fn _ _ _ _ _ _ _ _ _ _ _ _ _ _ T.l_draw (ok_l_draw T) hr (by decide) (@pa_cons _ _ _ _ _ (pv 1) (@pa_cons _ _ _ _ _ (@pe_int _ _ _ _) (@pa_nil _) star_con) star_name) (by rfl) (by decide) (by rfl) (by rfl)) (@pe_int _ _ _ _) (nomark _)) (@pss_cons _ _ _ _ _ (@ps_set _ _ 5 _ _ _ _ sc_law.nd rfl (Or.inl rfl) (@pe_lst _ _ _ _ (@pa_cons _ _ _ _ _ (@pe_callTy _ _ _ _ _ _ _ _ _ call_tuple_of (by rfl) T.b_tuple PyProof.Rows.boot_tuple (@pa_cons _ _ _ _ _ (pv 4) (@pa_nil _) star_name) (by decide) (by decide) (by rfl) (by rfl)) (@pa_cons _ _ _ _ _ (@pe_non _ _ _) (@pa_cons _ _ _ _ _ (@pe_int _ _ _ _) (@pa_cons _ _ _ _ _ (@pe_str _ _ _ _) (@pa_cons _ _ _ _ _ (@pe_lst _ _ _ _ (@pa_nil _)) (@pa_cons _ _ _ _ _ (@pe_slice _ _ _ _ _ _ _ _ _ _ sl_list (@pe_op _ _ _ _ _ _ _ _ op_cat (@pe_op _ _ _ _ _ _ _ _ op_cat (@pe_op _ _ _ _ _ _ _ _ op_cat (@pe_op _ _ _ _ _ _ _ _ op_cat (pv 4) (pv 2)) (pv 2)) (pv 2)) (pv 2)) (@po_none _) (@po_some _ _ _ (@pe_int _ _ _ _))) (@pa_cons _ _ _ _ _ (pe_disp (pps_cons (@pe_int _ _ _ _) (@pe_ix _ _ _ _ _ _ _ ix_list (pv 2) (@pe_int _ _ _ _) (fun _ _ => rfl)) pps_nil) rfl rfl (by decide) (by decide)) (@pa_nil _) (by rfl)) star_sub) star_lst) star_con) star_con) star_con) star_call)) (by rfl) (by first | exact .inl rfl | exact .inr rfl | assumption)) (@pss_one _ _ _ (@ps_set _ _ 4 _ _ _ _ sc_law.nd rfl (Or.inl rfl) (@pe_ix _ _ _ _ _ _ _ ix_list (pv 5) (@pe_fn _ _ _ _ _ _ _ _ _ _ _ _ _ _ T.l_draw (ok_l_draw T) hr (by decide) (@pa_cons _ _ _ _ _ (pv 1) (@pa_cons _ _ _ _ _ (@pe_int _ _ _ _) (@pa_nil _) star_con) star_name) (by rfl) (by decide) (by rfl) (by rfl)) (fun _ _ => rfl)) (by rfl) (by first | exact .inl rfl | exact .inr rfl | assumption)))) (@pss_nil _)) (@pss_cons _ _ _ _ _ (@ps_set _ _ 6 _ _ _ _ sc_law.nd rfl (Or.inl rfl) (@pe_fn _ _ _ _ _ _ _ _ _ _ _ _ _ _ T.l_copy (ok_l_copy T) hr (by decide) (@pa_cons _ _ _ _ _ (pv 4) (@pa_nil _) star_name) (by rfl) (by decide) (by rfl) (by rfl)) (by rfl) (by first | exact .inl rfl | exact .inr rfl | assumption)) (@pss_cons _ _ _ _ _ (@ps_set _ _ 7 _ _ _ _ sc_law.nd rfl (Or.inl rfl) (@pe_fn _ _ _ _ _ _ _ _ _ _ _ _ _ _ T.l_fault (ok_l_fault T) hr (by decide) (@pa_cons _ _ _ _ _ (pv 4) (@pa_nil _) star_name) (by rfl) (by decide) (by rfl) (by rfl)) (by rfl) (by first | exact .inl rfl | exact .inr rfl | assumption)) (@pss_cons _ _ _ _ _ (@ps_if _ _ _ _ _ _ _ _ (PW.pt (@pw_and _ _ _ _ _ _ _ (@pt_cmpR _ _ _ _ _ _ _ _ op_isN (pv 7) (@pe_non _ _ _) (nomark _)) (@pw_and1 _ _ _ _ (@pt_not _ _ _ _ (@pt_val _ _ _ (@pe_fn _ _ _ _ _ _ _ _ _ _ _ _ _ _ T.l_taken (ok_l_taken T) hr (by decide) (@pa_cons _ _ _ _ _ (pv 4) (@pa_nil _) star_name) (by rfl) (by decide) (by rfl) (by rfl)) (by intro _; rfl)))))) (@pss_one _ _ _ (@ps_ret _ _ _ _ (@pe_bl _ _ _ _))) (@pss_nil _)) (@pss_cons _ _ _ _ _ (@ps_if _ _ _ _ _ _ _ _ (PW.pt (@pw_and _ _ _ _ _ _ _ (@pt_cmpR _ _ _ _ _ _ _ _ op_notN (pv 7) (@pe_non _ _ _) (nomark _)) (@pw_and1 _ _ _ _ (@pt_not _ _ _ _ (@pt_val _ _ _ (@pe_fn _ _ _ _ _ _ _ _ _ _ _ _ _ _ T.l_by_base (ok_l_by_base T) hr (by decide) (@pa_cons _ _ _ _ _ (pv 4) (@pa_nil _) star_name) (by rfl) (by decide) (by rfl) (by rfl)) (by intro _; rfl)))))) (@pss_one _ _ _ (@ps_ret _ _ _ _ (@pe_bl _ _ _ _))) (@pss_nil _)) (@pss_one _ _ _ (@ps_ret _ _ _ _ (@pe_and _ _ _ _ _ _ _ (@pe_cmpR _ _ _ _ _ _ _ _ (op_eqR hr.units) (@pe_fn _ _ _ _ _ _ _ _ _ _ _ _ _ _ T.l_refused (ok_l_refused T) hr (by decide) (@pa_cons _ _ _ _ _ (pv 4) (@pa_nil _) star_name) (by rfl) (by decide) (by rfl) (by rfl)) (pv 7) (nomark _)) (@pe_and _ _ _ _ _ _ _ (@pe_cmpR _ _ _ _ _ _ _ _ (op_eqC hr.units) (pv 4) (pv 6) (nomark _)) (@pe_one _ _ _ _ _ (@pe_fn _ _ _ _ _ _ _ _ _ _ _ _ _ _ T.l_taken (ok_l_taken T) hr (by decide) (@pa_cons _ _ _ _ _ (pv 2) (@pa_nil _) star_name) (by rfl) (by decide) (by rfl) (by rfl))))))))))))))))), ?_⟩
    refine st_setG (gv_call (R := fun v H' => ∃ hd sc, v = .ref hd ∧ HandAt H' hd sc) (pa_c (pu_v rfl) pa_n) fun Q f => ⟨a, ns, rfl, hS, fun hd sc H' s n hh => f _ _ ⟨hd, sc, rfl, hh⟩⟩) ?_
    rintro _ H1 ⟨hd, sc, rfl, hh1⟩
    refine st_setG (gv_lst pa_n (by show 0 ≤ sizeLine; decide)) ?_
    rintro _ _ ⟨rl, hrl, rfl, rfl⟩
    obtain ⟨nrh, nrc⟩ := hh1.fresh hrl
    have hh2 : HandAt (upd H1 rl (.lst [])) hd sc := hh1.upd ⟨nrh, nrc⟩
    have hrl2 : (upd H1 rl (.lst [])) rl = some (.lst []) := upd_same
    generalize upd H1 rl (.lst []) = H2 at hh2 hrl2 ⊢
    refine st_rangeG (R := fun vs H3 => ∃ n : Int, vs = [.int n] ∧ 1 ≤ n ∧ n ≤ 4 ∧ HandAt H3 hd sc ∧ SameB hd H2 H3) (fun Q q => ?_) ?_
    · dsimp only [tCons, tOp, tC, tNil]
      refine gv_draw hh2 (pa_c (pu_v rfl) (pa_c pu_c pa_n)) (by decide) Bd.small _ ?_
      rintro _ H3 ⟨⟨n, rfl, z0, z1⟩, hh3, s3⟩
      exact ⟨1, n, rfl, rfl, q _ _ ⟨1 + n, rfl, by omega, by omega, hh3, s3⟩⟩
    rintro _ H3 ⟨n, rfl, n1, n4, hh3, s3⟩
    refine ⟨n, rfl, by omega, by omega, fun i σ H' => (∃ c : Option V, σ = [some (.ref a), some (.ref hd), some (.ref rl), c, none, none, none, none]) ∧ HandAt H' hd sc ∧ ∃ as ds, RgA H' rl as ds ∧ as.length = i ∧ rl ∉ as ∧ hd ∉ as ∧ ∀ d ∈ ds, ringF d = none, ⟨⟨_, rfl⟩, hh3, [], [], ⟨s3 _ _ hrl2 nrh, rfl, fun i p h => by simp at h⟩, rfl, List.not_mem_nil, List.not_mem_nil, fun _ h => nomatch h⟩, ?_, ?_⟩
    · rintro i σ H' hi ⟨⟨c, rfl⟩, hh', as, ds, rg, al, na, nh, good⟩
      obtain ⟨zs, hzs⟩ := hh'.ls
      have RB : ∀ {Hx : Hp}, SameB hd H' Hx → RgA Hx rl as ds := fun s => ⟨s _ _ rg.1 nrh, rg.2.1, fun j p hp => (stays_rowI ds).but (D := hd) (rg.2.2 j p hp) (fun e => nh (e ▸ List.mem_of_getElem? hp)) hzs s⟩
      refine st_app1 (xs := as.map V.ref) (R := fun v H4 => ∃ p ys nss, v = .ref p ∧ H' p = none ∧ H4 p = some (.lst ys) ∧ TupsT H4 ys nss ∧ 3 ≤ nss.length ∧ nss.length ≤ 12 ∧ GoodR nss ∧ nss.head? ≠ nss.getLast? ∧ HandAt H4 hd sc ∧ SameB hd H' H4) (pu_v rfl) rg.1 (gv_callA (RA := fun vs H4 => ∃ m : Nat, vs = [.ref hd, .int m] ∧ 3 ≤ m ∧ m ≤ 12 ∧ HandAt H4 hd sc ∧ SameB hd H' H4) (fun Q q => ?_) fun vs H4 z Q q => ?_) ?_
      · refine pu_v (v := .ref hd) rfl _ ?_
        dsimp only [tCons, tOp, tC, tNil]
        have GD : Gv (tCall sp_l_draw [] E0 (tCons (tVar 1) (tCons (tOp (rIxL K) (tLst (tCons (tC (.int 2)) (tCons (tC (.int 3)) (tCons (tC (.int 10)) tNil)))) (tCall sp_l_draw [] E0 (tCons (tVar 1) (tCons (tC (.int 3)) tNil)))) tNil))) [some (.ref a), some (.ref hd), some (.ref rl), some (.int (0 + (i : Int))), none, none, none, none] H' (fun v H4 => ∃ n : Int, v = .int n ∧ 0 ≤ n ∧ n < 10 ∧ HandAt H4 hd sc ∧ SameB hd H' H4) := by
          refine gv_callA (RA := fun vs H4 => ∃ y : Int, vs = [.ref hd, .int y] ∧ 0 < y ∧ y ≤ 10 ∧ HandAt H4 hd sc ∧ SameB hd H' H4) (fun Q q => pu_v (v := .ref hd) rfl _ (gv_pick (ys := [2, 3, 10]) (m := 10) hh' (pa_c pu_c (pa_c pu_c (pa_c pu_c pa_n))) (by decide) (by decide) (by decide) (fun _ => pa_c (pu_v rfl) (pa_c pu_c pa_n)) _ fun v H4 z => ?_)) fun vs H4 z Q q => ?_
          · obtain ⟨⟨y, rfl, y0, y1⟩, hh4, s4⟩ := z
            exact q _ _ ⟨y, rfl, y0, y1, hh4, s4⟩
          · obtain ⟨y, rfl, y0, y1, hh4, s4⟩ := z
            exact ⟨hd, sc, y, rfl, hh4, y0, Bd.small (by omega), fun n H5 z0 z1 hh5 s5 => q _ _ ⟨n, rfl, z0, by omega, hh5, s4.trans s5⟩⟩
        refine GD _ fun v H4 z => ?_
        obtain ⟨n, rfl, z0, z1, hh4, s4⟩ := z
        exact ⟨3, n, rfl, rfl, q _ _ ⟨(3 + n).toNat, by rw [show (((3 + n).toNat : Nat) : Int) = 3 + n by omega], by omega, by omega, hh4, s4⟩⟩
      · obtain ⟨m, rfl, m3, m12, hh4, s4⟩ := z
        refine ⟨hd, sc, m, rfl, m3, m12, hh4, fun p ys nss H5 e1 e2 e3 e4 e5 e6 e7 e8 => q _ _ ⟨p, ys, nss, rfl, ?_, e2, e3, by omega, by omega, e5, e6, e7, s4.trans e8⟩⟩
        cases c : H' p with
        | none => rfl
        | some o =>
          by_cases z : p = hd
          · obtain ⟨zs4, hz4⟩ := hh4.ls
            rw [z, hz4] at e1; cases e1
          · rw [s4 _ _ c z] at e1; cases e1
      · rintro _ H4 ⟨p, ys, nss, rfl, hp, hp4, ht4, l3, l12, gd, hne, hh4, s4⟩
        have rg4 := RB s4
        have npl : p ≠ rl := fun e => by rw [e, rg.1] at hp; cases hp
        have nph : p ≠ hd := fun e => by rw [e, hzs] at hp; cases hp
        refine ⟨_, rg4.1, Nat.lt_of_le_of_lt (show _ ≤ 1000 by rw [List.length_map, al]; omega) (by decide), ⟨_, rfl⟩, hh4.upd ⟨nrh, nrc⟩, as ++ [p], _, rg4.snoc na npl hp4 ht4, by rw [List.length_append, al]; rfl, fun h => ?_, fun h => ?_, fun d hd' => ?_⟩
        · rcases List.mem_append.mp h with h | h
          · exact na h
          · exact npl (List.mem_singleton.mp h).symm
        · rcases List.mem_append.mp h with h | h
          · exact nh h
          · exact nph (List.mem_singleton.mp h).symm
        · rcases List.mem_append.mp hd' with h | h
          · exact good d h
          · rw [List.mem_singleton.mp h]
            exact good_ring gd l3 l12 hne
    rintro σ H4 ⟨⟨c, rfl⟩, hh4, as, ds, rg, al, na, nh, good⟩
    have d4 : ds.length ≤ 4 := by rw [← rg.2.1, al]; omega
    have d1 : 1 ≤ ds.length := by rw [← rg.2.1, al]; omega
    refine st_setG (gv_ringsD (pu_v rfl) rg d4) ?_
    rintro _ H5 ⟨s5, T', ps, rfl, rgT, hT0, nT, np, nd⟩
    have hh5 := hh4.same s5
    have rg5 := rg.same s5
    obtain ⟨zs4, hz4⟩ := hh4.ls
    have nTh := (hh4.fresh hT0).1
    have sc4 : H4 sc ≠ none := by
      obtain ⟨_, _, _, _, _, _, _, h2, _⟩ := hh4
      rw [h2]; exact fun z => by cases z
    have nhs : sc ≠ hd := by
      obtain ⟨_, _, _, _, _, _, h1, h2, _⟩ := hh4
      exact HandAt.ne h1 h2
    have th5 : Th hd sc T' (fun b => b = hd ∨ b = T' ∨ b ∈ ps) H5 (ps.map V.ref) ds := {
      hT := rgT.1, len := by rw [List.length_map]; exact rgT.2.1, wh := .inl rfl, wt := .inr (.inl rfl)
      on := fun b hb => by
        rcases hb with rfl | rfl | hb
        · exact hh5.ls
        · exact ⟨_, rgT.1⟩
        · exact rgT.on b hb
      nt := nTh
      ns := fun h => by
        rcases h with h | h | h
        · exact nhs h
        · exact sc4 (h ▸ hT0)
        · exact sc4 (np sc h)
      el := fun i x d hx hd' => by
        rw [List.getElem?_map] at hx
        cases e : ps[i]? with
        | none => rw [e] at hx; cases hx
        | some p =>
          rw [e] at hx
          cases hx
          have hm := List.mem_of_getElem? e
          obtain ⟨nss, xs, q1, q2, q3, q4, q5⟩ := row_good good (rgT.2.2 i p e)
          rw [hd'] at q1
          cases q1
          exact .inl ⟨p, xs, _, rfl, rfl, q2, .inr (.inr hm), (hh4.fresh (np p hm)).1, fun z => nT (z ▸ hm), by rw [List.length_map]; omega, fun b _ => tups_ds q3⟩
      nd := fun i j p ys h1 h2 _ => by
        rw [List.getElem?_map] at h1 h2
        cases e1 : ps[i]? with
        | none => rw [e1] at h1; cases h1
        | some p1 =>
          cases e2 : ps[j]? with
          | none => rw [e2] at h2; cases h2
          | some p2 =>
            rw [e1] at h1
            rw [e2] at h2
            cases h1
            cases h2
            exact (List.getElem?_inj (List.getElem?_eq_some_iff.mp e1).1 nd).mp (e1.trans e2.symm) }
    -- the faults
    refine st_rangeG (R := fun vs H6 => ∃ n : Int, vs = [.int n] ∧ 0 ≤ n ∧ n < 4 ∧ HandAt H6 hd sc ∧ SameB hd H5 H6) (fun Q q => ?_) ?_
    · dsimp only [tCons, tNil]
      refine gv_draw hh5 (pa_c (pu_v rfl) (pa_c pu_c pa_n)) (by decide) Bd.small _ ?_
      rintro _ H6 ⟨⟨n, rfl, z0, z1⟩, hh6, s6⟩
      exact q _ _ ⟨n, rfl, z0, z1, hh6, s6⟩
    rintro _ H6 ⟨n2, rfl, z0, z1, hh6, s6⟩
    have th6 := th5.draw s6 hh6
    have pl : (ps.map V.ref).length = ds.length := by rw [List.length_map]; exact rgT.2.1
    refine ⟨n2, rfl, by omega, by omega, fun i σ H' => (∃ c : Option V, σ = [some (.ref a), some (.ref hd), some (.ref rl), c, some (.ref T'), none, none, none]) ∧ HandAt H' hd sc ∧ ∃ W xs' ds', Th hd sc T' W H' xs' ds' ∧ xs'.length = ds.length ∧ FW (fun b => b = hd ∨ b = T' ∨ b ∈ ps) H6 H' ∧ (∀ b, (b = hd ∨ b = T' ∨ b ∈ ps) → W b) ∧ ∀ b, W b → (b = hd ∨ b = T' ∨ b ∈ ps) ∨ H6 b = none, ⟨⟨_, rfl⟩, hh6, _, _, _, th6, pl, fun _ _ h _ => h, fun _ h => h, fun _ h => .inl h⟩, ?_, ?_⟩
    · rintro i σ H' hi ⟨⟨c, rfl⟩, hh', W, xs', ds', th', xl, F', W1, W2⟩
      dsimp only [gName, tDrop]
      refine (gv_call (sp := sp_l_spoil) (R := fun v H'' => HandAt H'' hd sc ∧ ∃ W xs' ds', Th hd sc T' W H'' xs' ds' ∧ xs'.length = ds.length ∧ FW (fun b => b = hd ∨ b = T' ∨ b ∈ ps) H6 H'' ∧ (∀ b, (b = hd ∨ b = T' ∨ b ∈ ps) → W b) ∧ ∀ b, W b → (b = hd ∨ b = T' ∨ b ∈ ps) ∨ H6 b = none) (pa_c (pu_v rfl) (pa_c (pu_v rfl) pa_n)) fun Q q => ⟨hd, sc, T', W, xs', ds', rfl, hh', th', by omega, by omega, fun W' xs2 ds2 H'' g1 g2 g3 g4 g5 g6 => q _ _ ⟨g1, W', xs2, ds2, g2, by omega, fun b o hb nb => ?_, fun b hb => g5 b (W1 b hb), fun b hb => ?_⟩⟩) _ fun v H'' r => ⟨⟨_, rfl⟩, r.1, r.2⟩
      · exact g4 _ _ (F' _ _ hb nb) fun w => (W2 b w).elim nb fun e => by rw [hb] at e; cases e
      · rcases g6 b hb with w | e
        · exact W2 b w
        · cases e6 : H6 b with
          | none => exact .inr rfl
          | some o =>
            by_cases w0 : b = hd ∨ b = T' ∨ b ∈ ps
            · exact .inl w0
            · have := F' _ _ e6 w0
              rw [e] at this; cases this
    rintro σ H7 ⟨⟨c, rfl⟩, hh7, W, xs', ds', th7, xl, F7, W1, W2⟩
    have hw5 : ∀ b, (b = hd ∨ b = T' ∨ b ∈ ps) → ∃ ys, H6 b = some (.lst ys) := th6.on
    have NW : ∀ {b : Addr}, H4 b ≠ none → b ≠ hd → ¬ (b = hd ∨ b = T' ∨ b ∈ ps) := fun h n w => by
      rcases w with w | w | w
      · exact n w
      · exact h (w ▸ hT0)
      · exact h (np _ w)
    have l4 : H4 rl ≠ none := by rw [rg.1]; exact fun z => by cases z
    have a4 : ∀ b ∈ as, H4 b ≠ none := fun b hb e => by
      obtain ⟨ys, z⟩ := rg.on b hb
      rw [e] at z; cases z
    have rg6 : RgA H6 rl as ds := ⟨s6 _ _ rg5.1 nrh, rg5.2.1, fun j p hp => by
      obtain ⟨zs5, hz5⟩ := hh5.ls
      exact (stays_rowI ds).but (D := hd) (rg5.2.2 j p hp) (fun e => nh (e ▸ List.mem_of_getElem? hp)) hz5 s6⟩
    have rg7 : RgA H7 rl as ds := rg6.fw F7 hw5 (NW l4 nrh) fun b hb => NW (a4 b hb) fun e => nh (e ▸ hb)
    have RK : ∀ {Ha Hb : Hp} {zs : List V}, RgA Ha rl as ds → Ha hd = some (.lst zs) → SameB hd Ha Hb → RgA Hb rl as ds := fun {Ha Hb zs} h hz s => ⟨s _ _ h.1 nrh, h.2.1, fun j p hp => (stays_rowI ds).but (D := hd) (h.2.2 j p hp) (fun e => nh (e ▸ List.mem_of_getElem? hp)) hz s⟩
    obtain ⟨zs7, hz7⟩ := hh7.ls
    have nha : ∀ b ∈ as, b ≠ hd := fun b hb e => nh (e ▸ hb)
    refine st_ifK (P := fun σ' H' => (∃ v d c5, σ' = [some (.ref a), some (.ref hd), some (.ref rl), c, some v, c5, none, none] ∧ DAt hd H' v d ∧ ∀ es, d = .lst es → es.length ≤ 1000) ∧ HandAt H' hd sc ∧ RgA H' rl as ds) (RB := fun b H8 => HandAt H8 hd sc ∧ SameB hd H7 H8) (fun Q q => ?_) (fun H8 r kont => ?_) (fun H8 r => ⟨⟨.ref T', .lst ds', _, rfl, DAt.but hz7 r.2 th7.dat, fun es e => by cases e; rw [← th7.len]; omega⟩, r.1, RK rg7 hz7 r.2⟩) ?_
    · dsimp only [tTest, tOp, tC]
      refine gv_draw hh7 (pa_c (pu_v rfl) (pa_c pu_c pa_n)) (by decide) Bd.small _ ?_
      rintro _ H8 ⟨⟨n, rfl, _, _⟩, hh8, s8⟩
      exact ⟨rfl, _, rfl, q _ _ ⟨hh8, s8⟩⟩
    · obtain ⟨hh8, s8⟩ := r
      have rg8 := RK rg7 hz7 s8
      have th8 := th7.draw s8 hh8
      have dT := th8.dat
      have dR := rg_dat rg8 nrh nha
      obtain ⟨zs8, hz8⟩ := hh8.ls
      cases dT with
      | @lst _ xsT _ hT nT tT =>
      cases dR with
      | @lst _ xsR _ hR nR tR =>
      have lT : xsT.length ≤ 4 := by rw [tT.len, ← th7.len]; omega
      have lR : xsR.length ≤ 4 := by rw [tR.len]; omega
      obtain ⟨x0, hx0⟩ : ∃ x, xsR[0]? = some x := ⟨_, List.getElem?_eq_getElem (by rw [tR.len]; omega)⟩
      refine st_setG (gv_lstS (S := fun b => b = hd) (ds := [.tup ds', .non, .int 7, .str (Str.ofString "layer"), .lst [], .lst ((ds' ++ ds ++ ds ++ ds ++ ds).take 5), .dct]) (as_c (fun H' s Q q => (pa_c (pu_v rfl) pa_n : PuA (tCons (tVar 4) tNil) _ _ [.ref T']) _ ⟨T', xsT, rfl, .inl ⟨SqL.of (s _ _ hT), fun l hl => q _ _ ⟨Same.upd hl, fun b hb => by subst hb; exact .tup upd_same (tT.same (s.trans (Same.upd hl)))⟩⟩⟩) (as_c es_n (as_c es_i (as_c (es_s ⟨by decide +kernel, by decide +kernel⟩) (as_c (es_lst (fun b hb => by subst hb; rw [hz8]; exact fun z => by cases z) as_n) (as_c (fun H' s Q g => ?_) (as_c (es_disp (kvs := [(.inl 0, x0)]) (by intro H' Q s q; exact pu_ixL (pu_v rfl) pu_c (SqL.of (s _ _ hR)) (atI_nat (j := 0) hx0) _ q) (by show 1 ≤ 15; decide)) as_n))))))) (by show 7 ≤ 1000; decide)) ?_
      · dsimp only [tSl, tNoPart, tPart, tOp, tC]
        have hT' := s _ _ hT
        have hR' := s _ _ hR
        refine pu_v (v := .ref T') rfl _ (pu_v (v := .ref rl) rfl _ ⟨T', rl, xsT, xsR, rfl, rfl, hT', hR', Nat.le_trans (show _ ≤ 1000 by omega) (by decide), fun q1 hq1 => ?_⟩)
        have t1 : Same H' (upd H' q1 (.lst (xsT ++ xsR))) := Same.upd hq1
        refine pu_v (v := .ref rl) rfl _ ⟨q1, rl, _, xsR, rfl, rfl, upd_same, t1 _ _ hR', Nat.le_trans (show _ ≤ 1000 by rw [List.length_append]; omega) (by decide), fun q2 hq2 => ?_⟩
        have t2 := Same.upd (o := .lst (xsT ++ xsR ++ xsR)) hq2
        refine pu_v (v := .ref rl) rfl _ ⟨q2, rl, _, xsR, rfl, rfl, upd_same, (t1.trans t2) _ _ hR', Nat.le_trans (show _ ≤ 1000 by simp only [List.length_append]; omega) (by decide), fun q3 hq3 => ?_⟩
        have t3 := Same.upd (o := .lst (xsT ++ xsR ++ xsR ++ xsR)) hq3
        refine pu_v (v := .ref rl) rfl _ ⟨q3, rl, _, xsR, rfl, rfl, upd_same, (t1.trans (t2.trans t3)) _ _ hR', Nat.le_trans (show _ ≤ 1000 by simp only [List.length_append]; omega) (by decide), fun q4 hq4 => ?_⟩
        have t4 := Same.upd (o := .lst (xsT ++ xsR ++ xsR ++ xsR ++ xsR)) hq4
        refine ⟨5, rfl, q4, _, rfl, SqL.of upd_same, fun q hq => ?_⟩
        rw [cut_to (by decide)]
        have tt := t1.trans (t2.trans (t3.trans (t4.trans (Same.upd (o := .lst ((xsT ++ xsR ++ xsR ++ xsR ++ xsR).take 5)) hq))))
        refine g _ _ ⟨tt, fun b hb => ?_⟩
        subst hb
        have uT := tT.same (s.trans tt)
        have uR := tR.same (s.trans tt)
        exact .lst upd_same (fun e => by
          have := (s.trans (t1.trans (t2.trans (t3.trans t4)))) _ _ hz8
          rw [← e, hq] at this; cases this) (ds_take _ (ds_app (ds_app (ds_app (ds_app uT uR) uR) uR) uR))
      · rintro _ H9 ⟨q9, xs9, rfl, hq9, s9, hq9', l9, t9⟩
        have hh9 := hh8.same s9
        obtain ⟨zs9, hz9⟩ := hh9.ls
        refine st_setG1 (R := fun v H10 => ∃ d, DAt hd H10 v d ∧ (∀ es, d = .lst es → es.length ≤ 1000) ∧ HandAt H10 hd sc ∧ RgA H10 rl as ds) (fun Q g => ?_) ?_
        · dsimp only [tOp]
          refine pu_v (v := .ref q9) rfl _ (gv_draw (m := 7) hh9 (pa_c (pu_v rfl) (pa_c pu_c pa_n)) (by decide) Bd.small _ ?_)
          rintro _ H10 ⟨⟨i, rfl, i0, i1⟩, hh10, s10⟩
          have hq10 := s10 _ _ hq9' (hh8.fresh hq9).1
          have t10 := DsAt.but hz9 s10 (t9 hd rfl)
          obtain ⟨d0, hd0⟩ : ∃ d0, ([.tup ds', .non, .int 7, .str (Str.ofString "layer"), .lst [], .lst ((ds' ++ ds ++ ds ++ ds ++ ds).take 5), .dct] : List D)[i.toNat]? = some d0 := ⟨_, List.getElem?_eq_getElem (show i.toNat < 7 by omega)⟩
          obtain ⟨v, hv, dv⟩ := t10.get' hd0
          refine ⟨q9, xs9, i, v, rfl, rfl, SqL.of hq10, atI_in i0 hv, g _ _ ⟨d0, dv, fun es e => ?_, hh10, RK (rg8.same s9) hz9 s10⟩⟩
          subst e
          have := List.mem_of_getElem? hd0
          simp only [List.mem_cons, List.not_mem_nil, or_false, D.lst.injEq, reduceCtorEq, false_or] at this
          rcases this with rfl | rfl
          · simp
          · rw [List.length_take]; omega
        · rintro v H10 ⟨d0, dv, hl0, hh10, rg10⟩
          exact kont _ _ ⟨⟨v, d0, _, rfl, dv, hl0⟩, hh10, rg10⟩
    · rintro σ' H8 ⟨⟨v, d, c5, rfl, dv, hl0⟩, hh8, rg8⟩
      obtain ⟨zs8, hz8⟩ := hh8.ls
      refine st_setG (R := fun r H9 => Same H8 H9 ∧ CpAt H9 v r) (gv_call (pa_c (pu_v rfl) pa_n) fun Q q => ⟨hd, v, d, rfl, dv, hl0, fun r H' s cp => q _ _ ⟨s, cp⟩⟩) ?_
      rintro kept H9 ⟨s9, cp9⟩
      refine st_setG (R := fun r H10 => Same H9 H10 ∧ RefD H10 d r) (gv_call (pa_c (pu_v rfl) pa_n) fun Q q => ⟨hd, v, d, rfl, dv.same s9, fun r H' s cp => q _ _ ⟨s, cp⟩⟩) ?_
      rintro due H10 ⟨s10, rd10⟩
      have GT : ∀ {σ : L2.St} {H' : Hp} {ta : TA} {v : V} {d : D}, PuA ta σ H' [v] → DAt hd H' v d → layF d = none → Same H8 H' → Gv (tCall sp_l_taken [] E0 ta) σ H' (fun r H2 => r = .bl true ∧ Same H' H2) := fun ha h1 h2 s => gv_call ha fun Q q => ⟨hd, _, _, zs8, rfl, s _ _ hz8, h1, h2, fun H2 s => q _ _ ⟨rfl, s⟩⟩
      have s8 := s9.trans s10
      -- what is due
      have FIN : ∀ {H11 : Hp} {En : Ends}, Same H10 H11 → En.rt = Q → tRet (tAndV (tOp (fun x y H Q => ((x = .non ∧ y = .non) ∨ ∃ ns, TupT H x ns ∧ TupT H y ns) ∧ Q (.bl true) H) (tCall sp_l_refused [] E0 (tCons (tVar 4) tNil)) (tVar 7)) (tAndV (tOp (fun x y H Q => ∃ hd d, DAt hd H x d ∧ CpAt H x y ∧ Q (.bl true) H) (tVar 4) (tVar 6)) (tCall sp_l_taken [] E0 (tCons (tVar 2) tNil)))) En [some (.ref a), some (.ref hd), some (.ref rl), c, some v, c5, some kept, some due] H11 := fun {H11 En} s11 er => by
        have s811 := s8.trans s11
        refine st_retG (R := fun r H' => r = .bl true) (gv_andG (R := fun r H' => r = .bl true ∧ Same H11 H') (fun Q g => ?_) fun r H12 z => ?_) fun r H' e => by rw [er, e]; exact k _
        · dsimp only [tOp]
          refine (gv_call (R := fun r H' => Same H11 H' ∧ RefD H' d r) (pa_c (pu_v rfl) pa_n) fun Q q => ⟨hd, v, d, rfl, dv.same s811, fun r H' s cp => q _ _ ⟨s, cp⟩⟩) _ fun r H12 z => ?_
          obtain ⟨s12, rd12⟩ := z
          refine pu_v rfl _ ⟨?_, g _ _ ⟨rfl, s12⟩⟩
          have rd10' : RefD H12 d due := by
            unfold RefD at rd10 ⊢
            cases q : layF d with
            | none => rw [q] at rd10; exact rd10
            | some kj =>
              obtain ⟨k, j⟩ := kj
              rw [q] at rd10
              exact rd10.same (s11.trans s12)
          unfold RefD at rd10' rd12
          cases q : layF d with
          | none => rw [q] at rd10' rd12; exact .inl ⟨rd12, rd10'⟩
          | some kj =>
            obtain ⟨k, j⟩ := kj
            rw [q] at rd10' rd12
            exact .inr ⟨_, rd12, rd10'⟩
        · obtain ⟨rfl, s12⟩ := z
          have s812 := s811.trans s12
          refine ⟨true, rfl, fun _ => gv_andG (R := fun r H' => r = .bl true ∧ H' = H12) (fun Q g => ?_) fun r H13 z => ?_, fun e => by cases e⟩
          · exact pu_v rfl _ (pu_v rfl _ ⟨hd, d, dv.same s812, cp9.same (s10.trans (s11.trans s12)), g _ _ ⟨rfl, rfl⟩⟩)
          · obtain ⟨rfl, rfl⟩ := z
            refine ⟨true, rfl, fun _ => (GT (pa_c (pu_v rfl) pa_n) (rg_dat (rg8.same s812) nrh nha) ?_ s812).imp fun r H' z => z.1, fun e => by cases e⟩
            show (if 1 ≤ ds.length ∧ ds.length ≤ 4 then firstF 0 ds else some (0, 0)) = none
            rw [if_pos ⟨d1, d4⟩]
            exact firstF_none fun m d' hd' => good d' (List.mem_of_getElem? hd')
      cases q : layF d with
      | none =>
        have ed : due = .non := by unfold RefD at rd10; rw [q] at rd10; exact rd10
        subst ed
        refine st_ifNG (R := fun b H11 => b = false ∧ Same H10 H11) (gt_and (R := fun b H11 => b = true ∧ H11 = H10) (PuT.gt (pt_isN (pu_v rfl) (by simp)) ⟨rfl, rfl⟩) (fun H11 r => ?_) (fun H11 r => by cases r.1)) (fun H11 r => by cases r.1) fun H11 r => ?_
        · obtain ⟨_, rfl⟩ := r
          exact (gt_n (R := fun b H3 => b = true ∧ Same H11 H3) ((gt_b (R := fun v H3 => v = .bl true ∧ Same H11 H3) (GT (pa_c (pu_v rfl) pa_n) (dv.same s8) q s8) (fun v H3 r => ⟨_, r.1⟩)).imp fun b H3 r => ⟨by have := r.1; cases this; rfl, r.2⟩)).imp fun b H3 r => ⟨by have := r.1; simpa using this, r.2⟩
        · refine st_ifN (b := false) (pt_and (b := false) (c := true) (pt_ntN (pu_v rfl) (by simp)) fun e => by cases e) (fun e => by cases e) fun _ => FIN r.2 rfl
      | some kj =>
        obtain ⟨kk, jj⟩ := kj
        obtain ⟨pd', ed, hpd⟩ : TupT H10 due [(kk : Int), (jj : Int)] := by unfold RefD at rd10; rw [q] at rd10; exact rd10
        subst ed
        refine st_ifN (b := false) (pt_and (b := false) (c := true) (pt_isN (pu_v rfl) (by simp)) fun e => by cases e) (fun e => by cases e) fun _ => ?_
        refine st_ifNG (R := fun b H11 => b = false ∧ Same H10 H11) (gt_and (R := fun b H11 => b = true ∧ H11 = H10) (PuT.gt (pt_ntN (pu_v rfl) (by simp)) ⟨rfl, rfl⟩) (fun H11 r => ?_) (fun H11 r => by cases r.1)) (fun H11 r => by cases r.1) fun H11 r => FIN r.2 rfl
        obtain ⟨_, rfl⟩ := r
        exact (gt_n (R := fun b H3 => b = true ∧ Same H11 H3) ((gt_b (R := fun v H3 => v = .bl true ∧ Same H11 H3) (gv_call (pa_c (pu_v rfl) pa_n) fun Q g => ⟨hd, v, d, rfl, dv.same s8, (by rw [q]; exact fun z => (by cases z)), fun H2 s => g _ _ ⟨rfl, s⟩⟩) (fun v H3 r => ⟨_, r.1⟩)).imp fun b H3 r => ⟨by have := r.1; cases this; rfl, r.2⟩)).imp fun b H3 r => ⟨by have := r.1; simpa using this, r.2⟩
end
theorem all_mk {l : PySem.W.OpenLaw} {w : World} {K : PySem.W.Frag} {h : Heap} {mg : Str → Option Value} {fa : Addr} (X : K.In h) (G : h.Ns mainGlobals mg) (hfa : mg "law" = some (.ref fa))
    {g0 : Addr} (u0 : PySem.W.nsIn K mainGlobals "PlyError" = some (some (.ref g0)))
    {g1 : Addr} (u1 : PySem.W.nsIn K mainGlobals "NoPoint" = some (some (.ref g1)))
    {g2 : Addr} (u2 : PySem.W.nsIn K mainGlobals "BadPlan" = some (some (.ref g2)))
    {g3 : Addr} (u3 : PySem.W.nsIn K mainGlobals "BadLayer" = some (some (.ref g3)))
    {g4 : Addr} (u4 : PySem.W.nsIn K mainGlobals "TooMany" = some (some (.ref g4)))
    {f0 : Addr} {od0 an0 : Option Addr} {sl0 : Array (Option Value)} {oc0 kV0 dc0 pm0 cd0 ct0 : Value}
    (a0 : PySem.W.findIn K (.ref g3) "__init__" = some (some (.ref f0))) (i0 : PySem.W.isFn K (.ref f0) = true) (l0 : K.lookup f0 = some ⟨oc0, od0, .func (PySem.W.fnOf "__init__" "BadLayer.__init__" (defArgs s_BadLayer_init) (defBody s_BadLayer_init) (defScope s_BadLayer_init) .none kV0 dc0 pm0 an0 cd0 ct0), sl0⟩) (c0 : PySem.W.codeIn K cd0 "BadLayer.__init__" = true) (k0 : PySem.W.keepIn K (.ref f0) = true)
    {f1 : Addr} {od1 an1 : Option Addr} {sl1 : Array (Option Value)} {oc1 kV1 dc1 pm1 cd1 ct1 : Value}
    (a1 : PySem.W.nsIn K mainGlobals "is_whole" = some (some (.ref f1))) (l1 : K.lookup f1 = some ⟨oc1, od1, .func (PySem.W.fnOf "is_whole" "is_whole" (defArgs s_is_whole) (defBody s_is_whole) (defScope s_is_whole) .none kV1 dc1 pm1 an1 cd1 ct1), sl1⟩) (c1 : PySem.W.codeIn K cd1 "is_whole" = true) (k1 : PySem.W.keepIn K (.ref f1) = true)
    {f2 : Addr} {od2 an2 : Option Addr} {sl2 : Array (Option Value)} {oc2 kV2 dc2 pm2 cd2 ct2 : Value}
    (a2 : PySem.W.nsIn K mainGlobals "divisor_of" = some (some (.ref f2))) (l2 : K.lookup f2 = some ⟨oc2, od2, .func (PySem.W.fnOf "divisor_of" "divisor_of" (defArgs s_divisor_of) (defBody s_divisor_of) (defScope s_divisor_of) .none kV2 dc2 pm2 an2 cd2 ct2), sl2⟩) (c2 : PySem.W.codeIn K cd2 "divisor_of" = true) (k2 : PySem.W.keepIn K (.ref f2) = true)
    {f3 : Addr} {od3 an3 : Option Addr} {sl3 : Array (Option Value)} {oc3 kV3 dc3 pm3 cd3 ct3 : Value}
    (a3 : PySem.W.nsIn K mainGlobals "is_point" = some (some (.ref f3))) (l3 : K.lookup f3 = some ⟨oc3, od3, .func (PySem.W.fnOf "is_point" "is_point" (defArgs s_is_point) (defBody s_is_point) (defScope s_is_point) .none kV3 dc3 pm3 an3 cd3 ct3), sl3⟩) (c3 : PySem.W.codeIn K cd3 "is_point" = true) (k3 : PySem.W.keepIn K (.ref f3) = true)
    {f4 : Addr} {od4 an4 : Option Addr} {sl4 : Array (Option Value)} {oc4 kV4 dc4 pm4 cd4 ct4 : Value}
    (a4 : PySem.W.nsIn K mainGlobals "is_list_of" = some (some (.ref f4))) (l4 : K.lookup f4 = some ⟨oc4, od4, .func (PySem.W.fnOf "is_list_of" "is_list_of" (defArgs s_is_list_of) (defBody s_is_list_of) (defScope s_is_list_of) .none kV4 dc4 pm4 an4 cd4 ct4), sl4⟩) (c4 : PySem.W.codeIn K cd4 "is_list_of" = true) (k4 : PySem.W.keepIn K (.ref f4) = true)
    {f5 : Addr} {od5 an5 : Option Addr} {sl5 : Array (Option Value)} {oc5 kV5 dc5 pm5 cd5 ct5 : Value}
    (a5 : PySem.W.nsIn K mainGlobals "is_layer_point" = some (some (.ref f5))) (l5 : K.lookup f5 = some ⟨oc5, od5, .func (PySem.W.fnOf "is_layer_point" "is_layer_point" (defArgs s_is_layer_point) (defBody s_is_layer_point) (defScope s_is_layer_point) .none kV5 dc5 pm5 an5 cd5 ct5), sl5⟩) (c5 : PySem.W.codeIn K cd5 "is_layer_point" = true) (k5 : PySem.W.keepIn K (.ref f5) = true)
    {f6 : Addr} {od6 an6 : Option Addr} {sl6 : Array (Option Value)} {oc6 kV6 dc6 pm6 cd6 ct6 : Value}
    (a6 : PySem.W.nsIn K mainGlobals "check_ring" = some (some (.ref f6))) (l6 : K.lookup f6 = some ⟨oc6, od6, .func (PySem.W.fnOf "check_ring" "check_ring" (defArgs s_check_ring) (defBody s_check_ring) (defScope s_check_ring) .none kV6 dc6 pm6 an6 cd6 ct6), sl6⟩) (c6 : PySem.W.codeIn K cd6 "check_ring" = true) (k6 : PySem.W.keepIn K (.ref f6) = true)
    {f7 : Addr} {od7 an7 : Option Addr} {sl7 : Array (Option Value)} {oc7 kV7 dc7 pm7 cd7 ct7 : Value}
    (a7 : PySem.W.nsIn K mainGlobals "layer_of" = some (some (.ref f7))) (l7 : K.lookup f7 = some ⟨oc7, od7, .func (PySem.W.fnOf "layer_of" "layer_of" (defArgs s_layer_of) (defBody s_layer_of) (defScope s_layer_of) .none kV7 dc7 pm7 an7 cd7 ct7), sl7⟩) (c7 : PySem.W.codeIn K cd7 "layer_of" = true) (k7 : PySem.W.keepIn K (.ref f7) = true)
    {f8 : Addr} {od8 an8 : Option Addr} {sl8 : Array (Option Value)} {oc8 kV8 dc8 pm8 cd8 ct8 : Value}
    (a8 : PySem.W.nsIn K mainGlobals "_law_hand" = some (some (.ref f8))) (l8 : K.lookup f8 = some ⟨oc8, od8, .func (PySem.W.fnOf "_law_hand" "_law_hand" (defArgs s_l_hand) (defBody s_l_hand) (defScope s_l_hand) .none kV8 dc8 pm8 an8 cd8 ct8), sl8⟩) (c8 : PySem.W.codeIn K cd8 "_law_hand" = true) (k8 : PySem.W.keepIn K (.ref f8) = true)
    {f9 : Addr} {od9 an9 : Option Addr} {sl9 : Array (Option Value)} {oc9 kV9 dc9 pm9 cd9 ct9 : Value}
    (a9 : PySem.W.nsIn K mainGlobals "_law_next" = some (some (.ref f9))) (l9 : K.lookup f9 = some ⟨oc9, od9, .func (PySem.W.fnOf "_law_next" "_law_next" (defArgs s_l_next) (defBody s_l_next) (defScope s_l_next) .none kV9 dc9 pm9 an9 cd9 ct9), sl9⟩) (c9 : PySem.W.codeIn K cd9 "_law_next" = true) (k9 : PySem.W.keepIn K (.ref f9) = true)
    {f10 : Addr} {od10 an10 : Option Addr} {sl10 : Array (Option Value)} {oc10 kV10 dc10 pm10 cd10 ct10 : Value}
    (a10 : PySem.W.nsIn K mainGlobals "_law_take" = some (some (.ref f10))) (l10 : K.lookup f10 = some ⟨oc10, od10, .func (PySem.W.fnOf "_law_take" "_law_take" (defArgs s_l_take) (defBody s_l_take) (defScope s_l_take) .none kV10 dc10 pm10 an10 cd10 ct10), sl10⟩) (c10 : PySem.W.codeIn K cd10 "_law_take" = true) (k10 : PySem.W.keepIn K (.ref f10) = true)
    {f11 : Addr} {od11 an11 : Option Addr} {sl11 : Array (Option Value)} {oc11 kV11 dc11 pm11 cd11 ct11 : Value}
    (a11 : PySem.W.nsIn K mainGlobals "_law_draw" = some (some (.ref f11))) (l11 : K.lookup f11 = some ⟨oc11, od11, .func (PySem.W.fnOf "_law_draw" "_law_draw" (defArgs s_l_draw) (defBody s_l_draw) (defScope s_l_draw) .none kV11 dc11 pm11 an11 cd11 ct11), sl11⟩) (c11 : PySem.W.codeIn K cd11 "_law_draw" = true) (k11 : PySem.W.keepIn K (.ref f11) = true)
    {f12 : Addr} {od12 an12 : Option Addr} {sl12 : Array (Option Value)} {oc12 kV12 dc12 pm12 cd12 ct12 : Value}
    (a12 : PySem.W.nsIn K mainGlobals "_law_divisor" = some (some (.ref f12))) (l12 : K.lookup f12 = some ⟨oc12, od12, .func (PySem.W.fnOf "_law_divisor" "_law_divisor" (defArgs s_l_divisor) (defBody s_l_divisor) (defScope s_l_divisor) .none kV12 dc12 pm12 an12 cd12 ct12), sl12⟩) (c12 : PySem.W.codeIn K cd12 "_law_divisor" = true) (k12 : PySem.W.keepIn K (.ref f12) = true)
    {f13 : Addr} {od13 an13 : Option Addr} {sl13 : Array (Option Value)} {oc13 kV13 dc13 pm13 cd13 ct13 : Value}
    (a13 : PySem.W.nsIn K mainGlobals "_law_point" = some (some (.ref f13))) (l13 : K.lookup f13 = some ⟨oc13, od13, .func (PySem.W.fnOf "_law_point" "_law_point" (defArgs s_l_point) (defBody s_l_point) (defScope s_l_point) .none kV13 dc13 pm13 an13 cd13 ct13), sl13⟩) (c13 : PySem.W.codeIn K cd13 "_law_point" = true) (k13 : PySem.W.keepIn K (.ref f13) = true)
    {f14 : Addr} {od14 an14 : Option Addr} {sl14 : Array (Option Value)} {oc14 kV14 dc14 pm14 cd14 ct14 : Value}
    (a14 : PySem.W.nsIn K mainGlobals "_law_whole" = some (some (.ref f14))) (l14 : K.lookup f14 = some ⟨oc14, od14, .func (PySem.W.fnOf "_law_whole" "_law_whole" (defArgs s_l_whole) (defBody s_l_whole) (defScope s_l_whole) .none kV14 dc14 pm14 an14 cd14 ct14), sl14⟩) (c14 : PySem.W.codeIn K cd14 "_law_whole" = true) (k14 : PySem.W.keepIn K (.ref f14) = true)
    {f15 : Addr} {od15 an15 : Option Addr} {sl15 : Array (Option Value)} {oc15 kV15 dc15 pm15 cd15 ct15 : Value}
    (a15 : PySem.W.nsIn K mainGlobals "_law_far" = some (some (.ref f15))) (l15 : K.lookup f15 = some ⟨oc15, od15, .func (PySem.W.fnOf "_law_far" "_law_far" (defArgs s_l_far) (defBody s_l_far) (defScope s_l_far) .none kV15 dc15 pm15 an15 cd15 ct15), sl15⟩) (c15 : PySem.W.codeIn K cd15 "_law_far" = true) (k15 : PySem.W.keepIn K (.ref f15) = true)
    {f16 : Addr} {od16 an16 : Option Addr} {sl16 : Array (Option Value)} {oc16 kV16 dc16 pm16 cd16 ct16 : Value}
    (a16 : PySem.W.nsIn K mainGlobals "_law_unlike" = some (some (.ref f16))) (l16 : K.lookup f16 = some ⟨oc16, od16, .func (PySem.W.fnOf "_law_unlike" "_law_unlike" (defArgs s_l_unlike) (defBody s_l_unlike) (defScope s_l_unlike) .none kV16 dc16 pm16 an16 cd16 ct16), sl16⟩) (c16 : PySem.W.codeIn K cd16 "_law_unlike" = true) (k16 : PySem.W.keepIn K (.ref f16) = true)
    {f17 : Addr} {od17 an17 : Option Addr} {sl17 : Array (Option Value)} {oc17 kV17 dc17 pm17 cd17 ct17 : Value}
    (a17 : PySem.W.nsIn K mainGlobals "_law_ring" = some (some (.ref f17))) (l17 : K.lookup f17 = some ⟨oc17, od17, .func (PySem.W.fnOf "_law_ring" "_law_ring" (defArgs s_l_ring) (defBody s_l_ring) (defScope s_l_ring) .none kV17 dc17 pm17 an17 cd17 ct17), sl17⟩) (c17 : PySem.W.codeIn K cd17 "_law_ring" = true) (k17 : PySem.W.keepIn K (.ref f17) = true)
    {f18 : Addr} {od18 an18 : Option Addr} {sl18 : Array (Option Value)} {oc18 kV18 dc18 pm18 cd18 ct18 : Value}
    (a18 : PySem.W.nsIn K mainGlobals "_law_no_point" = some (some (.ref f18))) (l18 : K.lookup f18 = some ⟨oc18, od18, .func (PySem.W.fnOf "_law_no_point" "_law_no_point" (defArgs s_l_no_point) (defBody s_l_no_point) (defScope s_l_no_point) .none kV18 dc18 pm18 an18 cd18 ct18), sl18⟩) (c18 : PySem.W.codeIn K cd18 "_law_no_point" = true) (k18 : PySem.W.keepIn K (.ref f18) = true)
    {f19 : Addr} {od19 an19 : Option Addr} {sl19 : Array (Option Value)} {oc19 kV19 dc19 pm19 cd19 ct19 : Value}
    (a19 : PySem.W.nsIn K mainGlobals "_law_within" = some (some (.ref f19))) (l19 : K.lookup f19 = some ⟨oc19, od19, .func (PySem.W.fnOf "_law_within" "_law_within" (defArgs s_l_within) (defBody s_l_within) (defScope s_l_within) .none kV19 dc19 pm19 an19 cd19 ct19), sl19⟩) (c19 : PySem.W.codeIn K cd19 "_law_within" = true) (k19 : PySem.W.keepIn K (.ref f19) = true)
    {f20 : Addr} {od20 an20 : Option Addr} {sl20 : Array (Option Value)} {oc20 kV20 dc20 pm20 cd20 ct20 : Value}
    (a20 : PySem.W.nsIn K mainGlobals "_law_spoil" = some (some (.ref f20))) (l20 : K.lookup f20 = some ⟨oc20, od20, .func (PySem.W.fnOf "_law_spoil" "_law_spoil" (defArgs s_l_spoil) (defBody s_l_spoil) (defScope s_l_spoil) .none kV20 dc20 pm20 an20 cd20 ct20), sl20⟩) (c20 : PySem.W.codeIn K cd20 "_law_spoil" = true) (k20 : PySem.W.keepIn K (.ref f20) = true)
    {f21 : Addr} {od21 an21 : Option Addr} {sl21 : Array (Option Value)} {oc21 kV21 dc21 pm21 cd21 ct21 : Value}
    (a21 : PySem.W.nsIn K mainGlobals "_law_fault" = some (some (.ref f21))) (l21 : K.lookup f21 = some ⟨oc21, od21, .func (PySem.W.fnOf "_law_fault" "_law_fault" (defArgs s_l_fault) (defBody s_l_fault) (defScope s_l_fault) .none kV21 dc21 pm21 an21 cd21 ct21), sl21⟩) (c21 : PySem.W.codeIn K cd21 "_law_fault" = true) (k21 : PySem.W.keepIn K (.ref f21) = true)
    {f22 : Addr} {od22 an22 : Option Addr} {sl22 : Array (Option Value)} {oc22 kV22 dc22 pm22 cd22 ct22 : Value}
    (a22 : PySem.W.nsIn K mainGlobals "_law_alike" = some (some (.ref f22))) (l22 : K.lookup f22 = some ⟨oc22, od22, .func (PySem.W.fnOf "_law_alike" "_law_alike" (defArgs s_l_alike) (defBody s_l_alike) (defScope s_l_alike) .none kV22 dc22 pm22 an22 cd22 ct22), sl22⟩) (c22 : PySem.W.codeIn K cd22 "_law_alike" = true) (k22 : PySem.W.keepIn K (.ref f22) = true)
    {f23 : Addr} {od23 an23 : Option Addr} {sl23 : Array (Option Value)} {oc23 kV23 dc23 pm23 cd23 ct23 : Value}
    (a23 : PySem.W.nsIn K mainGlobals "_law_refused" = some (some (.ref f23))) (l23 : K.lookup f23 = some ⟨oc23, od23, .func (PySem.W.fnOf "_law_refused" "_law_refused" (defArgs s_l_refused) (defBody s_l_refused) (defScope s_l_refused) .none kV23 dc23 pm23 an23 cd23 ct23), sl23⟩) (c23 : PySem.W.codeIn K cd23 "_law_refused" = true) (k23 : PySem.W.keepIn K (.ref f23) = true)
    {f24 : Addr} {od24 an24 : Option Addr} {sl24 : Array (Option Value)} {oc24 kV24 dc24 pm24 cd24 ct24 : Value}
    (a24 : PySem.W.nsIn K mainGlobals "_law_by_base" = some (some (.ref f24))) (l24 : K.lookup f24 = some ⟨oc24, od24, .func (PySem.W.fnOf "_law_by_base" "_law_by_base" (defArgs s_l_by_base) (defBody s_l_by_base) (defScope s_l_by_base) .none kV24 dc24 pm24 an24 cd24 ct24), sl24⟩) (c24 : PySem.W.codeIn K cd24 "_law_by_base" = true) (k24 : PySem.W.keepIn K (.ref f24) = true)
    {f25 : Addr} {od25 an25 : Option Addr} {sl25 : Array (Option Value)} {oc25 kV25 dc25 pm25 cd25 ct25 : Value}
    (a25 : PySem.W.nsIn K mainGlobals "_law_copy" = some (some (.ref f25))) (l25 : K.lookup f25 = some ⟨oc25, od25, .func (PySem.W.fnOf "_law_copy" "_law_copy" (defArgs s_l_copy) (defBody s_l_copy) (defScope s_l_copy) .none kV25 dc25 pm25 an25 cd25 ct25), sl25⟩) (c25 : PySem.W.codeIn K cd25 "_law_copy" = true) (k25 : PySem.W.keepIn K (.ref f25) = true)
    {f26 : Addr} {od26 an26 : Option Addr} {sl26 : Array (Option Value)} {oc26 kV26 dc26 pm26 cd26 ct26 : Value}
    (a26 : PySem.W.nsIn K mainGlobals "_law_taken" = some (some (.ref f26))) (l26 : K.lookup f26 = some ⟨oc26, od26, .func (PySem.W.fnOf "_law_taken" "_law_taken" (defArgs s_l_taken) (defBody s_l_taken) (defScope s_l_taken) .none kV26 dc26 pm26 an26 cd26 ct26), sl26⟩) (c26 : PySem.W.codeIn K cd26 "_law_taken" = true) (k26 : PySem.W.keepIn K (.ref f26) = true)
    {f27 : Addr} {od27 an27 : Option Addr} {sl27 : Array (Option Value)} {oc27 kV27 dc27 pm27 cd27 ct27 : Value}
    (a27 : PySem.W.nsIn K mainGlobals "law" = some (some (.ref f27))) (l27 : K.lookup f27 = some ⟨oc27, od27, .func (PySem.W.fnOf "law" "law" (defArgs s_law) (defBody s_law) (defScope s_law) .none kV27 dc27 pm27 an27 cd27 ct27), sl27⟩) (c27 : PySem.W.codeIn K cd27 "law" = true) (k27 : PySem.W.keepIn K (.ref f27) = true)
    (z0 : PySem.W.nsIn K mainGlobals "ValueError" = some none)
    (z1 : PySem.W.nsIn K mainGlobals "abs" = some none)
    (z2 : PySem.W.nsIn K mainGlobals "all" = some none)
    (z3 : PySem.W.nsIn K mainGlobals "bool" = some none)
    (z4 : PySem.W.nsIn K mainGlobals "enumerate" = some none)
    (z5 : PySem.W.nsIn K mainGlobals "int" = some none)
    (z6 : PySem.W.nsIn K mainGlobals "isinstance" = some none)
    (z7 : PySem.W.nsIn K mainGlobals "len" = some none)
    (z8 : PySem.W.nsIn K mainGlobals "list" = some none)
    (z9 : PySem.W.nsIn K mainGlobals "range" = some none)
    (z10 : PySem.W.nsIn K mainGlobals "tuple" = some none)
    {tq0 : Tok} (q0 : PySem.W.nsIn K mainGlobals "MOST_TOP" = some (some (.int 1000000000000 tq0)))
    {tq1 : Tok} (q1 : PySem.W.nsIn K mainGlobals "MOST_BOTTOM" = some (some (.int 1000000 tq1)))
    {tq2 : Tok} (q2 : PySem.W.nsIn K mainGlobals "LEAST_POINTS" = some (some (.int 3 tq2)))
    {tq3 : Tok} (q3 : PySem.W.nsIn K mainGlobals "MOST_POINTS" = some (some (.int 12 tq3)))
    {tq4 : Tok} (q4 : PySem.W.nsIn K mainGlobals "MOST_RINGS" = some (some (.int 4 tq4)))
    (wx3 : exI K g3 f0 = true) (kc3 : PySem.W.keepIn K (.ref g3) = true) (wc3 : exC K g3 = true) (wm3 : exM K g3 = true) (sa3 : PySem.W.findIn K (.ref g3) "__setattr__" = some (some (.builtin "object.__setattr__")))
    (n3_ring : PySem.W.findIn K (.ref g3) "ring" = some none)
    (n3_at : PySem.W.findIn K (.ref g3) "at" = some none)
    (w0 : PySem.W.exmOne K (.ref g3) (.ref g3) = some true)
    (w1 : PySem.W.exmOne K (.ref g3) (.ref g0) = some true)
    (w2 : PySem.W.kitOne K (.ref g3) (.ref g2) = some false)
    (w3 : PySem.W.kitOne K (.ref g3) (.ref g1) = some false)
    (w4 : PySem.W.kitOne K (.ref g3) (.ref g4) = some false)
    (w5 : PySem.W.kitOne K (.ref g3) (.ref g3) = some true)
    (w6 : PySem.W.kitOne K (.ref g3) (.type "ValueError") = some true)
    : ∃ fd : FuncData, (∀ (s : Shared) (v : Value), BindsTo s fd ⟨[v], []⟩ [("_law_script", v)]) ∧ ∀ base : Heap, K.In base → base.Ns mainGlobals mg → FnOk l.prog w K mg base CX0 7 fa fd ["_law_script"] (sp_law K) := by
  have e := hfa.symm.trans (PySem.W.mg_of X G a27)
  cases e
  have F0 := fun_mk (st := s_BadLayer_init) l0 c0 k0
  have b0 := F0.binds (ps := ["self", "ring", "at"]) fun _ _ _ _ _ _ us hl => match us, hl with | [_, _, _], _ => rfl
  have F1 := fun_mk (st := s_is_whole) l1 c1 k1
  have b1 := F1.binds (ps := ["thing"]) fun _ _ _ _ _ _ us hl => match us, hl with | [_], _ => rfl
  have F2 := fun_mk (st := s_divisor_of) l2 c2 k2
  have b2 := F2.binds (ps := ["one", "other"]) fun _ _ _ _ _ _ us hl => match us, hl with | [_, _], _ => rfl
  have F3 := fun_mk (st := s_is_point) l3 c3 k3
  have b3 := F3.binds (ps := ["thing"]) fun _ _ _ _ _ _ us hl => match us, hl with | [_], _ => rfl
  have F4 := fun_mk (st := s_is_list_of) l4 c4 k4
  have b4 := F4.binds (ps := ["thing", "least", "most"]) fun _ _ _ _ _ _ us hl => match us, hl with | [_, _, _], _ => rfl
  have F5 := fun_mk (st := s_is_layer_point) l5 c5 k5
  have b5 := F5.binds (ps := ["thing"]) fun _ _ _ _ _ _ us hl => match us, hl with | [_], _ => rfl
  have F6 := fun_mk (st := s_check_ring) l6 c6 k6
  have b6 := F6.binds (ps := ["number", "ring"]) fun _ _ _ _ _ _ us hl => match us, hl with | [_, _], _ => rfl
  have F7 := fun_mk (st := s_layer_of) l7 c7 k7
  have b7 := F7.binds (ps := ["rings"]) fun _ _ _ _ _ _ us hl => match us, hl with | [_], _ => rfl
  have F8 := fun_mk (st := s_l_hand) l8 c8 k8
  have b8 := F8.binds (ps := ["_law_script"]) fun _ _ _ _ _ _ us hl => match us, hl with | [_], _ => rfl
  have F9 := fun_mk (st := s_l_next) l9 c9 k9
  have b9 := F9.binds (ps := ["_law_hand_here"]) fun _ _ _ _ _ _ us hl => match us, hl with | [_], _ => rfl
  have F10 := fun_mk (st := s_l_take) l10 c10 k10
  have b10 := F10.binds (ps := ["_law_hand_here"]) fun _ _ _ _ _ _ us hl => match us, hl with | [_], _ => rfl
  have F11 := fun_mk (st := s_l_draw) l11 c11 k11
  have b11 := F11.binds (ps := ["_law_hand_here", "_law_many"]) fun _ _ _ _ _ _ us hl => match us, hl with | [_, _], _ => rfl
  have F12 := fun_mk (st := s_l_divisor) l12 c12 k12
  have b12 := F12.binds (ps := ["_law_one", "_law_other"]) fun _ _ _ _ _ _ us hl => match us, hl with | [_, _], _ => rfl
  have F13 := fun_mk (st := s_l_point) l13 c13 k13
  have b13 := F13.binds (ps := ["_law_a", "_law_b", "_law_c"]) fun _ _ _ _ _ _ us hl => match us, hl with | [_, _, _], _ => rfl
  have F14 := fun_mk (st := s_l_whole) l14 c14 k14
  have b14 := F14.binds (ps := ["_law_thing"]) fun _ _ _ _ _ _ us hl => match us, hl with | [_], _ => rfl
  have F15 := fun_mk (st := s_l_far) l15 c15 k15
  have b15 := F15.binds (ps := ["_law_hand_here"]) fun _ _ _ _ _ _ us hl => match us, hl with | [_], _ => rfl
  have F16 := fun_mk (st := s_l_unlike) l16 c16 k16
  have b16 := F16.binds (ps := ["_law_p", "_law_others"]) fun _ _ _ _ _ _ us hl => match us, hl with | [_, _], _ => rfl
  have F17 := fun_mk (st := s_l_ring) l17 c17 k17
  have b17 := F17.binds (ps := ["_law_hand_here", "_law_many"]) fun _ _ _ _ _ _ us hl => match us, hl with | [_, _], _ => rfl
  have F18 := fun_mk (st := s_l_no_point) l18 c18 k18
  have b18 := F18.binds (ps := ["_law_hand_here", "_law_p"]) fun _ _ _ _ _ _ us hl => match us, hl with | [_, _], _ => rfl
  have F19 := fun_mk (st := s_l_within) l19 c19 k19
  have b19 := F19.binds (ps := ["_law_p"]) fun _ _ _ _ _ _ us hl => match us, hl with | [_], _ => rfl
  have F20 := fun_mk (st := s_l_spoil) l20 c20 k20
  have b20 := F20.binds (ps := ["_law_hand_here", "_law_rings"]) fun _ _ _ _ _ _ us hl => match us, hl with | [_, _], _ => rfl
  have F21 := fun_mk (st := s_l_fault) l21 c21 k21
  have b21 := F21.binds (ps := ["_law_thing"]) fun _ _ _ _ _ _ us hl => match us, hl with | [_], _ => rfl
  have F22 := fun_mk (st := s_l_alike) l22 c22 k22
  have b22 := F22.binds (ps := ["_law_found", "_law_rings"]) fun _ _ _ _ _ _ us hl => match us, hl with | [_, _], _ => rfl
  have F23 := fun_mk (st := s_l_refused) l23 c23 k23
  have b23 := F23.binds (ps := ["_law_thing"]) fun _ _ _ _ _ _ us hl => match us, hl with | [_], _ => rfl
  have F24 := fun_mk (st := s_l_by_base) l24 c24 k24
  have b24 := F24.binds (ps := ["_law_thing"]) fun _ _ _ _ _ _ us hl => match us, hl with | [_], _ => rfl
  have F25 := fun_mk (st := s_l_copy) l25 c25 k25
  have b25 := F25.binds (ps := ["_law_thing"]) fun _ _ _ _ _ _ us hl => match us, hl with | [_], _ => rfl
  have F26 := fun_mk (st := s_l_taken) l26 c26 k26
  have b26 := F26.binds (ps := ["_law_rings"]) fun _ _ _ _ _ _ us hl => match us, hl with | [_], _ => rfl
  have F27 := fun_mk (st := s_law) l27 c27 k27
  have b27 := F27.binds (ps := ["_law_script"]) fun _ _ _ _ _ _ us hl => match us, hl with | [_], _ => rfl
  have T : Txt K mg { f_BadLayer_init := f0, d_BadLayer_init := _, f_is_whole := f1, d_is_whole := _, f_divisor_of := f2, d_divisor_of := _, f_is_point := f3, d_is_point := _, f_is_list_of := f4, d_is_list_of := _, f_is_layer_point := f5, d_is_layer_point := _, f_check_ring := f6, d_check_ring := _, f_layer_of := f7, d_layer_of := _, f_l_hand := f8, d_l_hand := _, f_l_next := f9, d_l_next := _, f_l_take := f10, d_l_take := _, f_l_draw := f11, d_l_draw := _, f_l_divisor := f12, d_l_divisor := _, f_l_point := f13, d_l_point := _, f_l_whole := f14, d_l_whole := _, f_l_far := f15, d_l_far := _, f_l_unlike := f16, d_l_unlike := _, f_l_ring := f17, d_l_ring := _, f_l_no_point := f18, d_l_no_point := _, f_l_within := f19, d_l_within := _, f_l_spoil := f20, d_l_spoil := _, f_l_fault := f21, d_l_fault := _, f_l_alike := f22, d_l_alike := _, f_l_refused := f23, d_l_refused := _, f_l_by_base := f24, d_l_by_base := _, f_l_copy := f25, d_l_copy := _, f_l_taken := f26, d_l_taken := _, f_law := fa, d_law := _, c_PlyError := g0, c_NoPoint := g1, c_BadPlan := g2, c_BadLayer := g3, c_TooMany := g4 } := { BadLayer_init := ⟨F0, b0⟩, mx_BadLayer := wx3, kx_BadLayer := kc3, xc_BadLayer := ⟨wc3, wm3, sa3⟩, n_BadLayer_ring := n3_ring, n_BadLayer_at := n3_at, is_whole := ⟨F1, b1, PySem.W.mg_of X G a1⟩, divisor_of := ⟨F2, b2, PySem.W.mg_of X G a2⟩, is_point := ⟨F3, b3, PySem.W.mg_of X G a3⟩, is_list_of := ⟨F4, b4, PySem.W.mg_of X G a4⟩, is_layer_point := ⟨F5, b5, PySem.W.mg_of X G a5⟩, check_ring := ⟨F6, b6, PySem.W.mg_of X G a6⟩, layer_of := ⟨F7, b7, PySem.W.mg_of X G a7⟩, l_hand := ⟨F8, b8, PySem.W.mg_of X G a8⟩, l_next := ⟨F9, b9, PySem.W.mg_of X G a9⟩, l_take := ⟨F10, b10, PySem.W.mg_of X G a10⟩, l_draw := ⟨F11, b11, PySem.W.mg_of X G a11⟩, l_divisor := ⟨F12, b12, PySem.W.mg_of X G a12⟩, l_point := ⟨F13, b13, PySem.W.mg_of X G a13⟩, l_whole := ⟨F14, b14, PySem.W.mg_of X G a14⟩, l_far := ⟨F15, b15, PySem.W.mg_of X G a15⟩, l_unlike := ⟨F16, b16, PySem.W.mg_of X G a16⟩, l_ring := ⟨F17, b17, PySem.W.mg_of X G a17⟩, l_no_point := ⟨F18, b18, PySem.W.mg_of X G a18⟩, l_within := ⟨F19, b19, PySem.W.mg_of X G a19⟩, l_spoil := ⟨F20, b20, PySem.W.mg_of X G a20⟩, l_fault := ⟨F21, b21, PySem.W.mg_of X G a21⟩, l_alike := ⟨F22, b22, PySem.W.mg_of X G a22⟩, l_refused := ⟨F23, b23, PySem.W.mg_of X G a23⟩, l_by_base := ⟨F24, b24, PySem.W.mg_of X G a24⟩, l_copy := ⟨F25, b25, PySem.W.mg_of X G a25⟩, l_taken := ⟨F26, b26, PySem.W.mg_of X G a26⟩, law := ⟨F27, b27, PySem.W.mg_of X G a27⟩, b_ValueError := PySem.W.mg_none_of X G z0, b_abs := PySem.W.mg_none_of X G z1, b_all := PySem.W.mg_none_of X G z2, b_bool := PySem.W.mg_none_of X G z3, b_enumerate := PySem.W.mg_none_of X G z4, b_int := PySem.W.mg_none_of X G z5, b_isinstance := PySem.W.mg_none_of X G z6, b_len := PySem.W.mg_none_of X G z7, b_list := PySem.W.mg_none_of X G z8, b_range := PySem.W.mg_none_of X G z9, b_tuple := PySem.W.mg_none_of X G z10, k_MOST_TOP := ⟨tq0, PySem.W.mg_of X G q0⟩, k_MOST_BOTTOM := ⟨tq1, PySem.W.mg_of X G q1⟩, k_LEAST_POINTS := ⟨tq2, PySem.W.mg_of X G q2⟩, k_MOST_POINTS := ⟨tq3, PySem.W.mg_of X G q3⟩, k_MOST_RINGS := ⟨tq4, PySem.W.mg_of X G q4⟩, m_PlyError := PySem.W.mg_of X G u0, m_NoPoint := PySem.W.mg_of X G u1, m_BadPlan := PySem.W.mg_of X G u2, m_BadLayer := PySem.W.mg_of X G u3, m_TooMany := PySem.W.mg_of X G u4, m_bad := w0, m_top := w1, i_plan := w2, i_point := w3, i_many := w4, i_bad := w5, i_val := w6 }
  exact ⟨PySem.W.fnOf "law" "law" (defArgs s_law) (defBody s_law) (defScope s_law) .none kV27 dc27 pm27 an27 cd27 ct27, fun s v => .of_eq rfl, fun base _ _ => ok_law T⟩
theorem walk {l : PySem.W.OpenLaw} {q : Program} {loose : List Str} {XP : (Str → Option Value) → Heap → Prop} {YP : World → Heap → Prop} {d : DefRec} {K : Params → PySem.W.Frag} (hn : l.most = some 63) (hdf : d.params.defaults = [])
    (hY : ∀ (w : World) (h : Heap), YP w h → (K w.params).In h)
    (F : ∀ (w : World) (mg : Str → Option Value) (fa : Addr) (h : Heap), (K w.params).In h → h.Ns mainGlobals mg → mg d.name = some (.ref fa) →
      ∃ fd : FuncData, (∀ (s : Shared) (u : Value), BindsTo s fd ⟨[u], []⟩ [("_law_script", u)]) ∧ ∀ base : Heap, (K w.params).In base → base.Ns mainGlobals mg → FnOk l.prog w (K w.params) mg base CX0 7 fa fd ["_law_script"] (sp_law (K w.params))) :
    PySem.W.WalkO q loose XP YP l.row.toRowW d [] (fun f vs => PySem.call f vs) :=
  L2.walk_of (n := 63) (k := 7) (x := "_law_script") (CX := fun _ => CX0) (sp := fun w => sp_law (K w.params)) hn (by decide) hdf ⟨rfl, by decide, by decide⟩ hY F (fun _ _ a ns hl _ hS => ⟨a, ns, rfl, hS, hl, fun _ => rfl⟩) fun _ _ _ _ _ z => z
end My
def PySem.W.Fast.tw14010722178003812981 : Nat := 0
def PySem.W.Fast.tw14207603949230243021 : Nat := 0
def PySem.W.Fast.tw11116740194904498056 : Nat := 0
def PySem.W.Fast.tw18294897254953413236 : Nat := 0
def PySem.W.Fast.tw15515131544599499969 : Nat := 0
def PySem.W.Fast.tw13049825341484422840 : Nat := 0
def PySem.W.Fast.tw9831648237209571858 : Nat := 0
def PySem.W.Fast.tw6414812455092757426 : Nat := 0
def PySem.W.Fast.tw14467456697295511424 : Nat := 0
def PySem.W.Fast.tw14870841538058596937 : Nat := 0
open PySem PySem.W PyProof.Rows
set_option maxRecDepth 100000 in
set_option maxHeartbeats 0 in
theorem PySem.Challenge.cw_plymap_k21_layers_refused_holds : PySem.Challenge.rw_plymap_k21_layers_refused.Holds := by
  w_on; o_law; k_head; (case hw => w_witness2)
  k_fill
  refine My.walk (l := PySem.Challenge.rw_plymap_k21_layers_refused) rfl rfl (fun w h Y => PySem.W.kIn_of Y) ?F
  case F =>
    intro w mg fa h KX G hmg
    refine' My.all_mk KX G hmg ?u0 ?u1 ?u2 ?u3 ?u4 ?a0 ?i0 ?l0 ?c0 ?k0 ?a1 ?l1 ?c1 ?k1 ?a2 ?l2 ?c2 ?k2 ?a3 ?l3 ?c3 ?k3 ?a4 ?l4 ?c4 ?k4 ?a5 ?l5 ?c5 ?k5 ?a6 ?l6 ?c6 ?k6 ?a7 ?l7 ?c7 ?k7 ?a8 ?l8 ?c8 ?k8 ?a9 ?l9 ?c9 ?k9 ?a10 ?l10 ?c10 ?k10 ?a11 ?l11 ?c11 ?k11 ?a12 ?l12 ?c12 ?k12 ?a13 ?l13 ?c13 ?k13 ?a14 ?l14 ?c14 ?k14 ?a15 ?l15 ?c15 ?k15 ?a16 ?l16 ?c16 ?k16 ?a17 ?l17 ?c17 ?k17 ?a18 ?l18 ?c18 ?k18 ?a19 ?l19 ?c19 ?k19 ?a20 ?l20 ?c20 ?k20 ?a21 ?l21 ?c21 ?k21 ?a22 ?l22 ?c22 ?k22 ?a23 ?l23 ?c23 ?k23 ?a24 ?l24 ?c24 ?k24 ?a25 ?l25 ?c25 ?k25 ?a26 ?l26 ?c26 ?k26 ?a27 ?l27 ?c27 ?k27 ?z0 ?z1 ?z2 ?z3 ?z4 ?z5 ?z6 ?z7 ?z8 ?z9 ?z10 ?q0 ?q1 ?q2 ?q3 ?q4 ?wx3 ?kc3 ?wc3 ?wm3 ?sa3 ?n3_ring ?n3_at ?w0 ?w1 ?w2 ?w3 ?w4 ?w5 ?w6
    (case u0 => k_is)
    (case u1 => k_is)
    (case u2 => k_is)
    (case u3 => k_is)
    (case u4 => k_is)
    (case a0 => k_is)
    (case i0 => k_is)
    (case l0 => k_is)
    (case c0 => k_is)
    (case k0 => k_is)
    (case a1 => k_is)
    (case l1 => k_is)
    (case c1 => k_is)
    (case k1 => k_is)
    (case a2 => k_is)
    (case l2 => k_is)
    (case c2 => k_is)
    (case k2 => k_is)
    (case a3 => k_is)
    (case l3 => k_is)
    (case c3 => k_is)
    (case k3 => k_is)
    (case a4 => k_is)
    (case l4 => k_is)
    (case c4 => k_is)
    (case k4 => k_is)
    (case a5 => k_is)
    (case l5 => k_is)
    (case c5 => k_is)
    (case k5 => k_is)
    (case a6 => k_is)
    (case l6 => k_is)
    (case c6 => k_is)
    (case k6 => k_is)
    (case a7 => k_is)
    (case l7 => k_is)
    (case c7 => k_is)
    (case k7 => k_is)
    (case a8 => k_is)
    (case l8 => k_is)
    (case c8 => k_is)
    (case k8 => k_is)
    (case a9 => k_is)
    (case l9 => k_is)
    (case c9 => k_is)
    (case k9 => k_is)
    (case a10 => k_is)
    (case l10 => k_is)
    (case c10 => k_is)
    (case k10 => k_is)
    (case a11 => k_is)
    (case l11 => k_is)
    (case c11 => k_is)
    (case k11 => k_is)
    (case a12 => k_is)
    (case l12 => k_is)
    (case c12 => k_is)
    (case k12 => k_is)
    (case a13 => k_is)
    (case l13 => k_is)
    (case c13 => k_is)
    (case k13 => k_is)
    (case a14 => k_is)
    (case l14 => k_is)
    (case c14 => k_is)
    (case k14 => k_is)
    (case a15 => k_is)
    (case l15 => k_is)
    (case c15 => k_is)
    (case k15 => k_is)
    (case a16 => k_is)
    (case l16 => k_is)
    (case c16 => k_is)
    (case k16 => k_is)
    (case a17 => k_is)
    (case l17 => k_is)
    (case c17 => k_is)
    (case k17 => k_is)
    (case a18 => k_is)
    (case l18 => k_is)
    (case c18 => k_is)
    (case k18 => k_is)
    (case a19 => k_is)
    (case l19 => k_is)
    (case c19 => k_is)
    (case k19 => k_is)
    (case a20 => k_is)
    (case l20 => k_is)
    (case c20 => k_is)
    (case k20 => k_is)
    (case a21 => k_is)
    (case l21 => k_is)
    (case c21 => k_is)
    (case k21 => k_is)
    (case a22 => k_is)
    (case l22 => k_is)
    (case c22 => k_is)
    (case k22 => k_is)
    (case a23 => k_is)
    (case l23 => k_is)
    (case c23 => k_is)
    (case k23 => k_is)
    (case a24 => k_is)
    (case l24 => k_is)
    (case c24 => k_is)
    (case k24 => k_is)
    (case a25 => k_is)
    (case l25 => k_is)
    (case c25 => k_is)
    (case k25 => k_is)
    (case a26 => k_is)
    (case l26 => k_is)
    (case c26 => k_is)
    (case k26 => k_is)
    (case a27 => k_is)
    (case l27 => k_is)
    (case c27 => k_is)
    (case k27 => k_is)
    (case z0 => k_is)
    (case z1 => k_is)
    (case z2 => k_is)
    (case z3 => k_is)
    (case z4 => k_is)
    (case z5 => k_is)
    (case z6 => k_is)
    (case z7 => k_is)
    (case z8 => k_is)
    (case z9 => k_is)
    (case z10 => k_is)
    (case q0 => k_is)
    (case q1 => k_is)
    (case q2 => k_is)
    (case q3 => k_is)
    (case q4 => k_is)
    (case wx3 => kernel_rfl)
    (case kc3 => k_is)
    (case wc3 => kernel_rfl)
    (case wm3 => kernel_rfl)
    (case sa3 => k_is)
    (case n3_ring => k_is)
    (case n3_at => k_is)
    (case w0 => kernel_rfl)
    (case w1 => kernel_rfl)
    (case w2 => kernel_rfl)
    (case w3 => kernel_rfl)
    (case w4 => kernel_rfl)
    (case w5 => kernel_rfl)
    (case w6 => kernel_rfl)
