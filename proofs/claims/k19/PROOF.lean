import PyProof.Rows.All
import Wide.All
import OpenK.AllK
import Wide.FinOn
import Lean
import PyProof.EqAt
import PyProof.EqKinds
import PyProof.TupleCall
import PyProof.ZipIter
import PyProof.TupleIter
import PyProof.AttrMiss
import PyProof.TupleKey
import PyProof.DictFindH
import KE.KDictOf
import PyProof.DictIter
import PyProof.DictWalks
import PyProof.ListRange
import KE.KDictList
import PyProof.CompUse
import KE.KTryMore
import PyProof.WalkInts
import KE.KIntText
import PyProof.StrLawsTight
import PyProof.Rows.StrIntSpec
import KE.KxMul
import KE.KEqDict
import PyProof.DictValues
import PyProof.StrLawsChain
import PyProof.ExcInit
import PyProof.InstStoreFacts
import PySem.Challenge.RW_plymap_k19_whatever_things
set_option Elab.async false
set_option linter.all false
set_option maxRecDepth 100000
/-! THE HAND LAYER, for ints, bools, texts, own classes, LISTS and tuples (index, slices, in, append, pop ..), calls, loops. Paste it whole ahead of your own text; what your proof does not reach may be deleted. -/
namespace L2
open PySem PySem.Spec PyProof.Rows

/-- a key: an int or a str -/
abbrev Key := Sum Int Str
def keyIs : Key → Value → Bool
  | .inl k, v => Value.isInt k v
  | .inr x, v => Value.isStrOf x v
def keyH (w : World) : Key → Int
  | .inl k => hashInt k
  | .inr x => hashStr w x
theorem keyIs_shape : ∀ {k : Key} {v : Value}, keyIs k v = true → (∃ i t, k = Sum.inl i ∧ v = Value.int i t) ∨ (∃ x t, k = Sum.inr x ∧ v = Value.str x t)
  | .inl i, v, h => by
    obtain ⟨t, e⟩ := Value.isInt_shape (k := i) (v := v) h
    exact .inl ⟨i, t, rfl, e⟩
  | .inr x, v, h => by
    obtain ⟨t, e⟩ := Value.isStrOf_shape (x := x) (v := v) h
    exact .inr ⟨x, t, rfl, e⟩
theorem keyIs_int (i : Int) (t : Tok) : keyIs (.inl i) (.int i t) = true := by simp [keyIs, Value.isInt]
theorem keyIs_str (x : Str) (t : Tok) : keyIs (.inr x) (.str x t) = true := by simp [keyIs, Value.isStrOf]
theorem key_ll (a b : Int) : decide ((Sum.inl a : Key) = Sum.inl b) = (a == b) := by
  by_cases e : a = b
  · subst e; simp
  · have h : ¬ (Sum.inl a : Key) = Sum.inl b := fun q => e (Sum.inl.inj q)
    rw [decide_eq_false h]
    exact (beq_eq_false_iff_ne.mpr e).symm
theorem key_rr (a b : Str) : decide ((Sum.inr a : Key) = Sum.inr b) = decide (a = b) := by
  by_cases e : a = b
  · subst e; simp
  · have h : ¬ (Sum.inr a : Key) = Sum.inr b := fun q => e (Sum.inr.inj q)
    rw [decide_eq_false h, decide_eq_false e]
theorem key_lr (a : Int) (b : Str) : decide ((Sum.inl a : Key) = Sum.inr b) = false := decide_eq_false (fun q => nomatch q)
theorem key_rl (a : Str) (b : Int) : decide ((Sum.inr a : Key) = Sum.inl b) = false := decide_eq_false (fun q => nomatch q)

def mixKind (prog : Program) (w : World) : PySem.KeyKind prog w Key where
  is := keyIs
  hash := keyH w
  inj := fun v a b ha hb => by
    rcases keyIs_shape ha with ⟨i, t, rfl, rfl⟩ | ⟨x, t, rfl, rfl⟩
    · rcases keyIs_shape hb with ⟨j, u, rfl, e⟩ | ⟨y, u, rfl, e⟩
      · injection e with e1 _; rw [e1]
      · exact nomatch e
    · rcases keyIs_shape hb with ⟨j, u, rfl, e⟩ | ⟨y, u, rfl, e⟩
      · exact nomatch e
      · injection e with e1 _; rw [e1]
  byValue := fun k v h => by
    rcases keyIs_shape h with ⟨i, t, rfl, rfl⟩ | ⟨x, t, rfl, rfl⟩ <;> rfl
  pyHash := fun hv h => by
    rcases keyIs_shape hv with ⟨i, t, rfl, rfl⟩ | ⟨x, t, rfl, rfl⟩
    · exact wpAny_pyHash_int h
    · exact wpAny_pyHash_str h
  eqBool := fun hu hv h => by
    rcases keyIs_shape hu with ⟨i, t, rfl, rfl⟩ | ⟨x, t, rfl, rfl⟩
    · rcases keyIs_shape hv with ⟨j, u, rfl, rfl⟩ | ⟨y, u, rfl, rfl⟩
      · rw [key_ll] at h; exact wpAny_eqBool_int h
      · rw [key_lr] at h; exact SeqAt.EqAt.int_str i t y u _ _ _ _ h
    · rcases keyIs_shape hv with ⟨j, u, rfl, rfl⟩ | ⟨y, u, rfl, rfl⟩
      · rw [key_rl] at h; exact SeqAt.EqAt.str_int x t j u _ _ _ _ h
      · rw [key_rr] at h; exact wpAny_eqBool_str h
  «strs» := fun k x t v h => by
    rcases keyIs_shape h with ⟨i, u, rfl, e⟩ | ⟨y, u, rfl, e⟩
    · exact nomatch e
    · injection e with e1 _
      subst e1
      cases v <;> rfl

theorem mixKind_int (prog : Program) (w : World) (i : Int) (t : Tok) : (mixKind prog w).is (.inl i) (.int i t) = true := keyIs_int i t
theorem mixKind_str (prog : Program) (w : World) (x : Str) (t : Tok) : (mixKind prog w).is (.inr x) (.str x t) = true := keyIs_str x t
end L2

namespace L2
open PySem PySem.Spec PyProof.Rows

/-- a value, without the heap -/
inductive V where
  | non | bl (b : Bool) | int (i : Int) | str (x : Str) | byt (b : Array UInt8) | flt (b : UInt64) | ref (a : Addr) | ty (n : String)
  deriving DecidableEq

def RelV : V → Value → Prop
  | .non, u => u = Value.none
  | .bl b, u => u = Value.bool b
  | .int i, u => ∃ t, u = Value.int i t
  | .str x, u => ∃ t, u = Value.str x t
  | .byt b, u => ∃ t, u = Value.bytes b t
  | .flt b, u => ∃ t, u = Value.float b t
  | .ref a, u => u = Value.ref a
  | .ty n, u => u = Value.type n

abbrev Vals : List V → List Value → Prop := Paired RelV
theorem Vals.length {xs : List V} {us : List Value} (r : Vals xs us) : xs.length = us.length := Paired.length r
theorem Vals.get : ∀ {xs : List V} {us : List Value} {i : Nat} {x : V}, Vals xs us → xs[i]? = some x → ∃ u, us[i]? = some u ∧ RelV x u
  | _, _, _, _, .nil, e => by simp at e
  | _, _, 0, _, .cons r _, e => by simp at e; subst e; exact ⟨_, rfl, r⟩
  | _, _, i + 1, x, .cons _ t, e => by
    obtain ⟨u, h1, h2⟩ := Vals.get (i := i) (x := x) t (by simpa using e)
    exact ⟨u, by simpa using h1, h2⟩
theorem Vals.set {x : V} {u : Value} (r : RelV x u) : ∀ {xs : List V} {us : List Value} (i : Nat), Vals xs us → Vals (xs.set i x) (us.set i u)
  | _, _, _, .nil => .nil
  | _, _, 0, .cons _ t => .cons r t
  | _, _, i + 1, .cons q t => .cons q (Vals.set r i t)
theorem Vals.append : ∀ {xs ys : List V} {us ws : List Value}, Vals xs us → Vals ys ws → Vals (xs ++ ys) (us ++ ws)
  | _, _, _, _, .nil, s => s
  | _, _, _, _, .cons r t, s => .cons r (Vals.append t s)
theorem Vals.take : ∀ {xs : List V} {us : List Value} (n : Nat), Vals xs us → Vals (xs.take n) (us.take n)
  | _, _, 0, _ => .nil
  | _, _, _ + 1, .nil => .nil
  | _, _, n + 1, .cons r t => .cons r (Vals.take n t)
theorem Vals.drop : ∀ {xs : List V} {us : List Value} (n : Nat), Vals xs us → Vals (xs.drop n) (us.drop n)
  | _, _, 0, r => r
  | _, _, _ + 1, .nil => .nil
  | _, _, n + 1, .cons _ t => Vals.drop n t

def RelO : Option V → Option Value → Prop
  | some v, some u => RelV v u
  | none, none => True
  | _, _ => False
def KV {κ : Type} : List (κ × V) → List (κ × Value) → Prop := Paired fun (p : κ × V) (q : κ × Value) => p.1 = q.1 ∧ RelV p.2 q.2

/-- a key of a dict (00_mix): an int or a text -/
def kV : Key → V
  | .inl i => .int i
  | .inr x => .str x

/-- what stands at a tracked address -/
inductive HO where
  /-- a list -/
  | lst (xs : List V)
  /-- a tuple (never changes) -/
  | tup (xs : List V)
  /-- a dict whose keys are ints and texts; one whose keys are tuples of ints and texts (the empty one is both) -/
  | dK (kvs : List (Key × V)) | dT (kvs : List (List Key × V))
  /-- a set of ints: its members, its size -/
  | set (S : Int → Bool) (n : Nat)
  /-- an instance of the class at C, its dict at dx, its attributes -/
  | ins (C dx : Addr) (fs : List (Str × V))
  /-- the dict of the instance at x -/
  | own (x : Addr)
  /-- the dict of an exception -/
  | xd (fs : List (Str × V))
  /-- a bound method, f of x -/
  | met (f x : Addr)
  /-- a range object lo, lo + 1, .. below hi -/
  | rng (lo hi : Int)
  /-- a thing that is known to the object (the script; a dict while a loop walks it): read, never written while it is so -/
  | frz (o : Obj) (u : HO)
  /-- a code object's table -/
  | tbl (ps : Array Value)
  /-- any other thing, by what is true of its one object (a def of one's own: SetO a S n := HO.ext fun h => ..) -/
  | ext (φ : Heap → Prop)

abbrev Hp := Addr → Option HO
def upd (H : Hp) (a : Addr) (o : HO) : Hp := fun b => if b = a then some o else H b
theorem upd_same {H : Hp} {a : Addr} {o : HO} : upd H a o a = some o := by unfold upd; rw [if_pos rfl]
theorem upd_ne {H : Hp} {a b : Addr} {o : HO} (h : b ≠ a) : upd H a o b = H b := by unfold upd; rw [if_neg h]
theorem upd_upd {H : Hp} {a : Addr} {o u : HO} : upd (upd H a o) a u = upd H a u := by
  funext b; unfold upd; split <;> rfl
theorem ne_of_none {H : Hp} {a b : Addr} {o : HO} (h : H a = some o) (h' : H b = none) : a ≠ b := by
  intro e; subst e; rw [h] at h'; cases h'

section
variable (P : Program) (w : World)
def ObjOk (H : Hp) (h : Heap) (a : Addr) : HO → Prop
  | .lst xs => xs.length ≤ sizeLine ∧ ∃ (its : List Value) (n : Nat), Vals xs its ∧ h.get? a = some { cls := .type "list", data := .seq its.toArray n }
  | .tup xs => xs.length ≤ sizeLine ∧ ∃ its : List Value, Vals xs its ∧ IsTup h a its.toArray
  | .dK kvs => kvs.length ≤ sizeLine ∧ (a == sysModules) = false ∧ ∃ vs, KV kvs vs ∧ h.DictOf (mixKind P w) a vs
  | .dT kvs => kvs.length ≤ sizeLine ∧ (a == sysModules) = false ∧ ∃ xs : List (List Key × Addr × Value),
      Paired (fun (p : List Key × V) (q : List Key × Addr × Value) => p.1 = q.1 ∧ H q.2.1 = some (.tup (p.1.map kV)) ∧ RelV p.2 q.2.2) kvs xs ∧
      ∃ o es ep, h.get? a = some o ∧ o.ExactDict ∧ o.data = .dict es ep ∧ es.toList = xs.map (entryOfKey (tupleKind (mixKind P w))) ∧ (xs.map (·.1)).Nodup
  | .set S n => h.SetOf (intKind P w) a S n
  | .ins C dx fs => H dx = some (.own a) ∧ fs.length ≤ 1000 ∧ dx ≠ a ∧ h.get? a = some (PySem.W.instObj C dx) ∧
      ∃ mA, h.Ns1 dx mA ∧ (∀ f, RelO (fs.lookup f) (mA f)) ∧ PySem.Within mA (fs.map (·.1))
  | .own _ => ∃ o, h.get? a = some o
  | .xd fs => ∃ mA, h.Ns1 a mA ∧ ∀ f, RelO (fs.lookup f) (mA f)
  | .rng lo hi => ∃ t u v, h.get? a = some { cls := .type "range", data := .fields #[.int lo t, .int hi u, .int 1 v] }
  | .frz o u => h.get? a = some o ∧ ObjOk H h a u
  | .tbl ps => h.get? a = some { cls := .none, data := .fields ps }
  | .met f x => h.get? a = some (PySem.W.methodObj (.ref f) (.ref x))
  | .ext φ => φ h ∧ (∃ o, h.get? a = some o) ∧ ∀ h1 h2 : Heap, φ h1 → (∀ o, h1.get? a = some o → h2.get? a = some o) → φ h2
/-- the abstract heap is held -/
def HOk (H : Hp) (h : Heap) : Prop := ∀ a o, H a = some o → ObjOk P w H h a o
end

section
variable {P : Program} {w : World} {H H' : Hp} {h h' : Heap} {a : Addr} {o : HO}
theorem ObjOk.lt (x : ObjOk P w H h a o) : a < h.objs.size := by
  cases o with
  | lst xs => obtain ⟨_, _, _, _, e⟩ := x; exact Heap.lt_size e
  | tup xs => obtain ⟨_, _, _, p⟩ := x; exact p.lt
  | dK kvs => obtain ⟨_, _, _, _, o, _, _, e, _⟩ := x; exact Heap.lt_size e
  | dT kvs => obtain ⟨_, _, _, _, o, _, _, e, _⟩ := x; exact Heap.lt_size e
  | set S n => obtain ⟨o, _, _, _, e, _⟩ := x; exact Heap.lt_size e
  | ins C dx fs => obtain ⟨_, _, _, e, _⟩ := x; exact Heap.lt_size e
  | own y => obtain ⟨_, e⟩ := x; exact Heap.lt_size e
  | xd fs => obtain ⟨_, ⟨_, _, _, e, _⟩, _⟩ := x; exact Heap.lt_size e
  | rng lo hi => obtain ⟨_, _, _, e⟩ := x; exact Heap.lt_size e
  | frz ob u => obtain ⟨e, _⟩ := x; exact Heap.lt_size e
  | tbl ps => exact Heap.lt_size (show h.get? a = some _ from x)
  | met f y => exact Heap.lt_size (show h.get? a = some _ from x)
  | ext φ => obtain ⟨_, ⟨_, e⟩, _⟩ := x; exact Heap.lt_size e
theorem Paired.mapP {α β : Type} {F G : α → β → Prop} : ∀ {l₁ : List α} {l₂ : List β}, Paired F l₁ l₂ → (∀ a b, F a b → G a b) → Paired G l₁ l₂
  | _, _, .nil, _ => .nil
  | _, _, .cons r t, f => .cons (f _ _ r) (Paired.mapP t f)
/-- what an object's description leans on: its own object, its own dict, the tuples -/
theorem ObjOk.stay (x : ObjOk P w H h a o) (k : ∀ b u, (b = a ∨ H b = some (.own a)) → h.get? b = some u → h'.get? b = some u)
    (ho : ∀ b, H b = some (.own a) → H' b = some (.own a)) (ht : ∀ b xs, H b = some (.tup xs) → H' b = some (.tup xs)) : ObjOk P w H' h' a o := by
  induction o with
  | lst xs => obtain ⟨z, its, n, r, e⟩ := x; exact ⟨z, its, n, r, k _ _ (.inl rfl) e⟩
  | tup xs => obtain ⟨z, its, r, ob, e, c⟩ := x; exact ⟨z, its, r, ob, k _ _ (.inl rfl) e, c⟩
  | dK kvs => obtain ⟨z, y, vs, r, ob, es, ep, e, c⟩ := x; exact ⟨z, y, vs, r, ob, es, ep, k _ _ (.inl rfl) e, c⟩
  | dT kvs =>
    obtain ⟨z, y, xs, r, ob, es, ep, e, c⟩ := x
    exact ⟨z, y, xs, Paired.mapP r fun p q z => ⟨z.1, ht _ _ z.2.1, z.2.2⟩, ob, es, ep, k _ _ (.inl rfl) e, c⟩
  | set S n => obtain ⟨ob, es, ep, t, e, c⟩ := x; exact ⟨ob, es, ep, t, k _ _ (.inl rfl) e, c⟩
  | ins C dx fs =>
    obtain ⟨d, z, ne, e, mA, ⟨od, es, ep, e2, c⟩, r⟩ := x
    exact ⟨ho _ d, z, ne, k _ _ (.inl rfl) e, mA, ⟨od, es, ep, k _ _ (.inr d) e2, c⟩, r⟩
  | own y => obtain ⟨ob, e⟩ := x; exact ⟨ob, k _ _ (.inl rfl) e⟩
  | xd fs => obtain ⟨mA, ⟨od, es, ep, e, c⟩, r⟩ := x; exact ⟨mA, ⟨od, es, ep, k _ _ (.inl rfl) e, c⟩, r⟩
  | rng lo hi => obtain ⟨t, u, v, e⟩ := x; exact ⟨t, u, v, k _ _ (.inl rfl) e⟩
  | frz ob u ih => obtain ⟨e, q⟩ := x; exact ⟨k _ _ (.inl rfl) e, ih q⟩
  | tbl ps =>
    have e : h.get? a = some { cls := .none, data := .fields ps } := x
    show h'.get? a = some { cls := .none, data := .fields ps }
    exact k a _ (.inl rfl) e
  | met f y =>
    have e : h.get? a = some (PySem.W.methodObj (.ref f) (.ref y)) := x
    show h'.get? a = some (PySem.W.methodObj (.ref f) (.ref y))
    exact k a _ (.inl rfl) e
  | ext φ => obtain ⟨p, ⟨o, e⟩, st⟩ := x; exact ⟨st _ _ p fun o q => k _ _ (.inl rfl) q, ⟨o, k _ _ (.inl rfl) e⟩, st⟩
theorem HOk.lt (x : HOk P w H h) (e : H a = some o) : a < h.objs.size := (x a o e).lt
theorem HOk.fresh (x : HOk P w H h) (e : h.objs.size ≤ a) : H a = none := by
  cases q : H a with
  | none => rfl
  | some u => exact absurd (Nat.lt_of_lt_of_le (x.lt q) e) (Nat.lt_irrefl _)
/-- every object of the heap is kept -/
theorem HOk.kept (x : HOk P w H h) (k : ∀ b u, h.get? b = some u → h'.get? b = some u) : HOk P w H h' := fun a o e =>
  (x a o e).stay (fun b u _ q => k b u q) (fun _ q => q) fun _ _ q => q
/-- a new object is laid and tracked -/
theorem HOk.laid (x : HOk P w H h) (k : ∀ b u, h.get? b = some u → h'.get? b = some u) (hp : h.objs.size ≤ a) (new : ObjOk P w (upd H a o) h' a o) : HOk P w (upd H a o) h' := fun b u e => by
  have hn := x.fresh hp
  by_cases hb : b = a
  · subst hb; rw [upd_same] at e; cases e; exact new
  · rw [upd_ne hb] at e
    exact (x b u e).stay (fun c v _ q => k c v q) (fun c q => by rw [upd_ne (ne_of_none q hn)]; exact q) fun c xs q => by rw [upd_ne (ne_of_none q hn)]; exact q
end

/-- what may be read as u: it is u, or a known u -/
def Rd (H : Hp) (a : Addr) (u : HO) : Prop := H a = some u ∨ ∃ o, H a = some (.frz o u)
theorem Rd.ok {P : Program} {w : World} {H : Hp} {h : Heap} {a : Addr} {u : HO} (r : Rd H a u) (x : HOk P w H h) : ObjOk P w H h a u := by
  rcases r with r | ⟨o, r⟩
  · exact x a u r
  · obtain ⟨_, q⟩ := x a _ r
    exact q
/-- what may be written -/
def Mut : Option HO → Prop
  | some (.lst _) => True
  | some (.dK _) => True
  | some (.dT _) => True
  | some (.set _ _) => True
  | some (.ins _ _ _) => True
  | some (.ext _) => True
  | _ => False
section
variable {P : Program} {w : World} {H : Hp} {h h' : Heap} {x e : Addr} {o' : HO}
/-- the object at e is changed: x itself, or the dict of the instance x -/
theorem HOk.write (ok : HOk P w H h) (mu : Mut (H x)) (he : e = x ∨ H e = some (.own x)) (k : ∀ b u, b ≠ e → h.get? b = some u → h'.get? b = some u) (heo : ∃ u, h'.get? e = some u)
    (new : ObjOk P w (upd H x o') h' x o') : HOk P w (upd H x o') h' := fun b u q => by
  have nown : ∀ c y, H c = some (.own y) → c ≠ x := fun c y r z => by subst z; rw [r] at mu; exact mu
  have ntup : ∀ c xs, H c = some (.tup xs) → c ≠ x := fun c xs r z => by subst z; rw [r] at mu; exact mu
  by_cases hb : b = x
  · subst hb; rw [upd_same] at q; cases q; exact new
  · rw [upd_ne hb] at q
    by_cases hbe : b = e
    · have q' : H b = some (.own x) := by
        rcases he with z | z
        · exact absurd (hbe.trans z) hb
        · rw [hbe]; exact z
      rw [q] at q'; cases q'
      obtain ⟨v, hv⟩ := heo
      exact ⟨v, by rw [hbe]; exact hv⟩
    · refine (ok b u q).stay (fun c v hc r => k c v ?_ r) (fun c r => by rw [upd_ne (nown c b r)]; exact r) fun c xs r => by rw [upd_ne (ntup c xs r)]; exact r
      rcases hc with rfl | hc
      · exact hbe
      · rintro rfl
        rcases he with z | z
        · exact nown c b hc z
        · rw [hc] at z; cases z; exact hb rfl
end

/-! ### kept unless tracked; of the frames at fs (the callers') the slots may change (an exception that passes writes there); of the records at ex (iterators) nothing is said -/
structure Un (fs ex : List Addr) (H H' : Hp) (h h' : Heap) : Prop where
  keep : ∀ b o, h.get? b = some o → H b = none → b ∉ fs → b ∉ ex → h'.get? b = some o
  slot : ∀ b o, h.get? b = some o → H b = none → b ∈ fs → b ∉ ex → ∃ sl, h'.get? b = some { o with slots := sl }
  free : ∀ b o, h.get? b = some o → H b = none → b ∉ ex → H' b = none
  there : ∀ b o, h.get? b = some o → b ∉ ex → ∃ o', h'.get? b = some o'
  tups : ∀ b xs, H b = some (.tup xs) → H' b = some (.tup xs)
  frzs : ∀ b o u, H b = some (.frz o u) → H' b = some (.frz o u)
  tbls : ∀ b ps, H b = some (.tbl ps) → ∃ more, H' b = some (.tbl (ps ++ more))
section
variable {fs fs' ex ex' : List Addr} {H H1 H2 : Hp} {h h1 h2 h' : Heap} {a x e : Addr} {o : HO}
theorem Un.any (u : Un fs ex H H1 h h1) {b : Addr} {ob : Obj} (q : h.get? b = some ob) (n : H b = none) (hx : b ∉ ex) : ∃ sl, h1.get? b = some { ob with slots := sl } := by
  by_cases hb : b ∈ fs
  · exact u.slot b ob q n hb hx
  · exact ⟨ob.slots, u.keep b ob q n hb hx⟩
theorem Un.kept (k : ∀ b u, h.get? b = some u → h'.get? b = some u) : Un fs ex H H h h' :=
  ⟨fun b ob q _ _ _ => k b ob q, fun b ob q _ _ _ => ⟨ob.slots, k b ob q⟩, fun _ _ _ n _ => n, fun b ob q _ => ⟨ob, k b ob q⟩, fun _ _ q => q, fun _ _ _ q => q, fun _ ps q => ⟨#[], by rw [q]; simp⟩⟩
theorem Un.refl : Un fs ex H H h h := Un.kept fun _ _ q => q
theorem Un.laid (k : ∀ b u, h.get? b = some u → h'.get? b = some u) (hp : h.objs.size ≤ a) (hn : H a = none) : Un fs ex H (upd H a o) h h' where
  keep := fun b u q _ _ _ => k b u q
  slot := fun b u q _ _ _ => ⟨u.slots, k b u q⟩
  free := fun b u q n _ => by rw [upd_ne (Nat.ne_of_lt (Nat.lt_of_lt_of_le (Heap.lt_size q) hp))]; exact n
  there := fun b u q _ => ⟨u, k b u q⟩
  tups := fun b xs q => by rw [upd_ne (ne_of_none q hn)]; exact q
  frzs := fun b u xs q => by rw [upd_ne (ne_of_none q hn)]; exact q
  tbls := fun b ps q => ⟨#[], by rw [upd_ne (ne_of_none q hn), q]; simp⟩
theorem Un.write (mu : Mut (H x)) (he : e = x ∨ H e = some (.own x)) (k : ∀ b u, b ≠ e → h.get? b = some u → h'.get? b = some u) (heo : ∃ u, h'.get? e = some u) : Un fs ex H (upd H x o) h h' := by
  have hx : ∀ b, H b = none → b ≠ x := fun b n z => by subst z; rw [n] at mu; exact mu
  have hb : ∀ b, H b = none → b ≠ e := fun b n z => by
    subst z
    rcases he with r | r
    · exact hx b n r
    · rw [n] at r; cases r
  have hm : ∀ b u, H b = some u → ¬ Mut (some u) → b ≠ x := fun b u q nm z => by subst z; rw [q] at mu; exact nm mu
  refine ⟨fun b u q n _ _ => k b u (hb b n) q, fun b u q n _ _ => ⟨u.slots, k b u (hb b n) q⟩, fun b u q n _ => by rw [upd_ne (hx b n)]; exact n, fun b u q _ => ?_,
    fun b xs q => by rw [upd_ne (hm b _ q fun z => z)]; exact q, fun b u xs q => by rw [upd_ne (hm b _ q fun z => z)]; exact q, fun b ps q => ⟨#[], by rw [upd_ne (hm b _ q fun z => z), q]; simp⟩⟩
  by_cases hbe : b = e
  · subst hbe; exact heo
  · exact ⟨u, k b u hbe q⟩
end

/-! ### the heap without what is tracked -/
def trk (h : Heap) (H : Hp) : List Addr := (List.range h.objs.size).filter fun a => (H a).isSome
def hidT (h : Heap) (H : Hp) : Heap := PySem.W.hideAll h (trk h H)
theorem hidT_size (h : Heap) (H : Hp) : (hidT h H).objs.size = h.objs.size := PySem.W.hideAll_size _ _
theorem hidT_get {h : Heap} {H : Hp} {b : Addr} {o : Obj} (e : h.get? b = some o) (n : H b = none) : (hidT h H).get? b = some o :=
  PySem.W.hideAll_get _ e fun hm => by
    have q : (H b).isSome = true := (List.mem_filter.mp hm).2
    rw [n] at q; simp at q
theorem of_hidT {h : Heap} {H : Hp} {b : Addr} {o : Obj} (e : (hidT h H).get? b = some o) : h.get? b = some o ∧ H b = none := by
  have e' : h.get? b = some o := PySem.W.of_hideAll (trk h H) e
  refine ⟨e', ?_⟩
  cases q : H b with
  | none => rfl
  | some x =>
    have hm : b ∈ trk h H := List.mem_filter.mpr ⟨List.mem_range.mpr (Heap.lt_size e'), by simp [q]⟩
    have z : (hidT h H).get? b = none := PySem.W.hideAll_none (trk h H) hm
    rw [z] at e; cases e

/-! ### OpenK's ledger, filled with every new object but one -/
end L2

namespace L2
open PySem PySem.Spec PyProof.Rows

/-- the module's facts, over the base: the heap at the law's entry without what is tracked there -/
structure Mod (K : PySem.W.Frag) (mg : Str → Option Value) (base : Heap) : Prop where
  kin : K.In base
  glob : base.Ns mainGlobals mg
  blt : ∃ mb, base.Ns builtinsNs mb ∧ ∀ x : Str, x ≠ "__name__" → mb x = bootBuiltins x
  nolimit : base.NoLimit

/-- the context: a def's body (or a comprehension's block) running. base: fixed through the whole law; s₀, H₀: the entry; outer: the frames whose slots others may change (a def's callers); stack: all frames that run;
   ex: iterators that were made ahead of the entry and are walked here (a comprehension's); fn: the names whose cells were made at the entry (a def: all; a comprehension's block: its own); calm: not within an except suite; pn: pins that every state bears; xe: what is wanted of an exception that leaves the code -/
structure Cx where
  prog : Program
  w : World
  K : PySem.W.Frag
  mg : Str → Option Value
  base : Heap
  A : Around
  N : List Str
  s₀ : Shared
  H₀ : Hp
  env : Env
  outer : List Env
  stack : List Env
  ex : List Addr
  fn : Str → Bool
  calm : Bool
  pn : List (Addr × Obj)
  xe : Value → Shared → Prop
/-- the callers' frames -/
def frs (l : List Env) : List Addr := l.filterMap (·.frame)
abbrev Cx.fs (X : Cx) : List Addr := frs X.outer

def Vis (sc : Scope) (x : Str) : Prop := sc.names.lookup x = some .local ∨ sc.names.lookup x = some .cell ∨ sc.names.lookup x = some .free
def Loc (sc : Scope) (x : Str) : Prop := sc.names.lookup x = some .local ∨ sc.names.lookup x = some .cell
def Look (env : Env) (h : Heap) (m : Str → Option Value) (x : Str) (u : Value) : Prop :=
  (env.kindOf x = some .local ∧ m x = some u) ∨ ((env.kindOf x = some .cell ∨ env.kindOf x = some .free) ∧ ∃ c, env.cells.lookup x = some c ∧ h.IsCell c (some u))

structure Cx.Ok (X : Cx) : Prop where
  mod : Mod X.K X.mg X.base
  kind : X.env.scope.kind = .function
  glob : X.env.globals = mainGlobals
  blt : X.env.builtins = builtinsNs
  above : X.s₀.heap.objs.size ≤ X.env.locals
  inj : ∀ x y c, X.env.cells.lookup x = some c → X.env.cells.lookup y = some c → x = y
  has : ∀ x, (X.env.kindOf x = some .cell ∨ X.env.kindOf x = some .free) → ∃ c, X.env.cells.lookup x = some c
  cab : ∀ x c, X.fn x = true → X.env.cells.lookup x = some c → X.s₀.heap.objs.size ≤ c
  hd : X.calm = true → X.A.handled = none
  frames : X.A.frames = some X.stack
  stk : X.stack = X.outer ∨ (X.stack = X.env :: X.outer ∧ X.env.frame = some X.env.locals)
  exf : ∀ b ∈ X.ex, b ≠ X.env.locals ∧ ∀ x c, X.env.cells.lookup x = some c → c ≠ b
  bs : ∀ b o, X.base.get? b = some o → X.s₀.heap.get? b = some o ∧ X.H₀ b = none
  bsz : X.base.objs.size ≤ X.s₀.heap.objs.size
  noex : ∀ b o, X.base.get? b = some o → b ∉ X.ex
  exfs : ∀ b ∈ X.ex, b ∉ X.fs
  funs : X.s₀.heap.FunFrames X.base X.outer
  frf : ∀ b ∈ X.fs, X.H₀ b = none

structure Inv (X : Cx) (pins : List (Addr × Obj)) (σ : List (Option V)) (H : Hp) (s : Shared) : Prop where
  ok : X.Ok
  os : s.os = X.s₀.os
  bare : AllBare s.gens
  base : Un X.fs X.ex X.H₀ H X.s₀.heap s.heap
  loc : ∃ m, s.heap.Ns X.env.locals m ∧ ∀ (i : Nat) (x : Str) (v : V), X.N[i]? = some x → σ[i]? = some (some v) → Vis X.env.scope x → ∃ u, RelV v u ∧ Look X.env s.heap m x u
  cell : ∀ x c, X.env.cells.lookup x = some c → ∃ v, s.heap.IsCell c v
  free : H X.env.locals = none
  freeC : ∀ x c, X.env.cells.lookup x = some c → H c = none
  pin : ∀ p ∈ X.pn ++ pins, s.heap.get? p.1 = some p.2 ∧ H p.1 = none ∧ p.1 ≠ X.env.locals ∧ p.1 ∉ X.fs ∧ ∀ v, p.2.data ≠ .cell v
  hok : HOk X.prog X.w H s.heap
  len : σ.length = X.N.length

section
variable {X : Cx} {pins : List (Addr × Obj)} {σ : List (Option V)} {H H' : Hp} {s : Shared} {h' : Heap}

theorem Cx.Ok.nofr (ok : X.Ok) {b : Addr} {o : Obj} (e : X.base.get? b = some o) : b ∉ X.fs := fun hb => by
  have := (ok.funs.mem hb).1
  rw [e] at this; cases this
theorem Inv.bs (I : Inv X pins σ H s) : ∀ b o, X.base.get? b = some o → s.heap.get? b = some o ∧ H b = none := fun b o e =>
  ⟨I.base.keep b o (I.ok.bs b o e).1 (I.ok.bs b o e).2 (I.ok.nofr e) (I.ok.noex b o e), I.base.free b o (I.ok.bs b o e).1 (I.ok.bs b o e).2 (I.ok.noex b o e)⟩
theorem Inv.bk (I : Inv X pins σ H s) : ∀ b o, X.base.get? b = some o → s.heap.get? b = some o := fun b o e => (I.bs b o e).1
theorem Inv.mod (I : Inv X pins σ H s) : Mod X.K X.mg X.base := I.ok.mod
theorem Inv.kIn (I : Inv X pins σ H s) : X.K.In s.heap := I.ok.mod.kin.keeps I.bk
theorem Inv.lt (I : Inv X pins σ H s) : X.env.locals < s.heap.objs.size := let ⟨_, hn, _⟩ := I.loc; hn.lt
theorem Inv.sz (I : Inv X pins σ H s) : X.s₀.heap.objs.size ≤ s.heap.objs.size := Nat.le_trans I.ok.above (Nat.le_of_lt I.lt)
theorem Inv.nofs (I : Inv X pins σ H s) {a : Addr} (h : s.heap.objs.size ≤ a) : a ∉ X.fs := fun hb => by
  obtain ⟨_, o, ho, _⟩ := I.ok.funs.mem hb
  exact absurd (Nat.lt_of_lt_of_le (Heap.lt_size ho) (Nat.le_trans I.sz h)) (Nat.lt_irrefl _)
theorem Inv.cne (I : Inv X pins σ H s) : ∀ x c, X.env.cells.lookup x = some c → c ≠ X.env.locals := fun x c e z => by
  obtain ⟨v, o, ho, hd⟩ := I.cell x c e
  obtain ⟨m, ⟨o', es, ep, ho', hd', _⟩, _⟩ := I.loc
  rw [z, ho'] at ho; cases ho; rw [hd'] at hd; cases hd
theorem Inv.funs (I : Inv X pins σ H s) : s.heap.FunFrames X.base X.outer := by
  have all : ∀ (l : List Env), (∀ b ∈ frs l, b ∈ X.fs) → X.s₀.heap.FunFrames X.base l → s.heap.FunFrames X.base l := by
    intro l
    induction l with
    | nil => intro _ _; trivial
    | cons env r ih =>
      intro hs hl
      obtain ⟨hk, ⟨L, o, hf, hn, ho, hd⟩, hr⟩ := hl
      have hL : L ∈ X.fs := hs L (by unfold frs; rw [List.filterMap_cons, hf]; exact List.mem_cons_self)
      obtain ⟨sl, e⟩ := I.base.slot L o ho (I.ok.frf L hL) hL fun z => I.ok.exfs L z hL
      exact ⟨hk, ⟨L, _, hf, hn, e, hd⟩, ih (fun b hb => hs b (by unfold frs; rw [List.filterMap_cons, hf]; exact List.mem_cons_of_mem _ hb)) hr⟩
  exact all X.outer (fun _ hb => hb) I.ok.funs

/-- the frames that run, for a call -/
theorem Inv.stack (I : Inv X pins σ H s) : s.heap.FunFrames X.base X.stack := by
  rcases I.ok.stk with e | ⟨e, hf⟩
  · rw [e]; exact I.funs
  · rw [e]
    obtain ⟨m, hn, _⟩ := I.loc
    refine .cons (by rw [I.ok.kind]; decide) hf hn ?_ I.funs
    exact Heap.get?_none_of_le (Nat.le_trans I.ok.bsz I.ok.above)
theorem Inv.stkSub (I : Inv X pins σ H s) : ∀ b ∈ frs X.stack, b ∈ X.env.locals :: X.fs := fun b hb => by
  rcases I.ok.stk with e | ⟨e, hf⟩
  · rw [e] at hb; exact List.mem_cons_of_mem _ hb
  · rw [e] at hb
    unfold frs at hb
    rw [List.filterMap_cons, hf] at hb
    exact hb
theorem Inv.stkFree (I : Inv X pins σ H s) : ∀ b ∈ frs X.stack, H b = none := fun b hb => by
  rcases List.mem_cons.mp (I.stkSub b hb) with e | hb
  · rw [e]; exact I.free
  · obtain ⟨_, o, ho, _⟩ := I.ok.funs.mem hb
    exact I.base.free b o ho (I.ok.frf b hb) fun z => I.ok.exfs b z hb

/-- THE STEP: the untracked objects but the frame and the records at ch are kept (the callers' frames up to slots), the frame's map is kept, the new abstract heap is held -/
theorem Inv.step {g' : Array GenState} {t' : Nat} {d' : Drawn} {ch : List Addr} (I : Inv X pins σ H s)
    (hch : ∀ b ∈ ch, (b ∈ X.ex ∨ X.s₀.heap.objs.size ≤ b) ∧ b ≠ X.env.locals ∧ (∀ x c, X.env.cells.lookup x = some c → c ≠ b) ∧ ∀ p ∈ X.pn ++ pins, p.1 ≠ b)
    (keep : ∀ b o, b ≠ X.env.locals → b ∉ X.fs → b ∉ ch → s.heap.get? b = some o → H b = none → h'.get? b = some o)
    (slot : ∀ b o, b ≠ X.env.locals → b ∈ X.fs → b ∉ ch → s.heap.get? b = some o → H b = none → ∃ sl, h'.get? b = some { o with slots := sl }) (free : ∀ b o, b ∉ ch → s.heap.get? b = some o → H b = none → H' b = none)
    (there : ∀ b o, b ∉ ch → s.heap.get? b = some o → ∃ o', h'.get? b = some o')
    (tups : ∀ b xs, H b = some (.tup xs) → H' b = some (.tup xs)) (frzs : ∀ b o u, H b = some (.frz o u) → H' b = some (.frz o u)) (tbls : ∀ b ps, H b = some (.tbl ps) → ∃ more, H' b = some (.tbl (ps ++ more)))
    (ns : ∀ m, s.heap.Ns X.env.locals m → h'.Ns X.env.locals m) (hok : HOk X.prog X.w H' h') (hg : AllBare g') :
    Inv X pins σ H' { s with heap := h', gens := g', drawn := d', toks := t' } := by
  have neL : ∀ b o, X.s₀.heap.get? b = some o → b ≠ X.env.locals := fun b o e => Nat.ne_of_lt (Nat.lt_of_lt_of_le (Heap.lt_size e) I.ok.above)
  have neC : ∀ b o, X.s₀.heap.get? b = some o → b ∉ X.ex → b ∉ ch := fun b o e hx hb => by
    rcases (hch b hb).1 with z | z
    · exact hx z
    · exact absurd (Nat.lt_of_lt_of_le (Heap.lt_size e) z) (Nat.lt_irrefl _)
  have cellK : ∀ x c, X.env.cells.lookup x = some c → ∀ v, s.heap.IsCell c v → h'.IsCell c v := fun x c e v ⟨o, ho, hd⟩ => by
    have nch : c ∉ ch := fun z => (hch c z).2.2.1 x c e rfl
    by_cases hc : c ∈ X.fs
    · obtain ⟨sl, q⟩ := slot c o (I.cne x c e) hc nch ho (I.freeC x c e)
      exact ⟨_, q, hd⟩
    · exact ⟨o, keep c o (I.cne x c e) hc nch ho (I.freeC x c e), hd⟩
  refine ⟨I.ok, I.os, hg, ⟨fun b o e n hb hx => ?_, fun b o e n hb hx => ?_, fun b o e n hx => ?_, fun b o e hx => ?_, fun b xs e => tups b xs (I.base.tups b xs e), fun b o xs e => frzs b o xs (I.base.frzs b o xs e), fun b ps e => ?_⟩, ?_, fun x c e => ?_, ?_, fun x c e => ?_, fun p hp => ?_, hok, I.len⟩
  · exact keep b o (neL b o e) hb (neC b o e hx) (I.base.keep b o e n hb hx) (I.base.free b o e n hx)
  · obtain ⟨sl, e1⟩ := I.base.slot b o e n hb hx
    obtain ⟨sl', e2⟩ := slot b _ (neL b o e) hb (neC b o e hx) e1 (I.base.free b o e n hx)
    exact ⟨sl', e2⟩
  · obtain ⟨o', e1⟩ := I.base.there b o e hx
    exact free b o' (neC b o e hx) e1 (I.base.free b o e n hx)
  · obtain ⟨o', e1⟩ := I.base.there b o e hx
    exact there b o' (neC b o e hx) e1
  · obtain ⟨m1, e1⟩ := I.base.tbls b ps e
    obtain ⟨m2, e2⟩ := tbls b _ e1
    exact ⟨m1 ++ m2, by rw [e2, Array.append_assoc]⟩
  · obtain ⟨m, hn, hl⟩ := I.loc
    refine ⟨m, ns m hn, fun i x v e1 e2 e3 => ?_⟩
    obtain ⟨u, r, l⟩ := hl i x v e1 e2 e3
    refine ⟨u, r, ?_⟩
    rcases l with l | ⟨k, c, e, z⟩
    · exact .inl l
    · exact .inr ⟨k, c, e, cellK x c e _ z⟩
  · obtain ⟨v, z⟩ := I.cell x c e
    exact ⟨v, cellK x c e v z⟩
  · obtain ⟨m, ⟨o, _, _, ho, _⟩, _⟩ := I.loc
    exact free _ o (fun z => (hch _ z).2.1 rfl) ho I.free
  · obtain ⟨v, o, ho, hd⟩ := I.cell x c e
    exact free c o (fun z => (hch c z).2.2.1 x c e rfl) ho (I.freeC x c e)
  · obtain ⟨e, n, ne, nf, d⟩ := I.pin p hp
    have nch : p.1 ∉ ch := fun z => (hch p.1 z).2.2.2 p hp rfl
    exact ⟨keep p.1 p.2 ne nf nch e n, free p.1 p.2 nch e n, ne, nf, d⟩
/-- .. where the frame's own object is kept too -/
theorem Inv.un {t' : Nat} (I : Inv X pins σ H s) (u : Un X.fs [] H H' s.heap h') (hok : HOk X.prog X.w H' h') : Inv X pins σ H' { s with heap := h', toks := t' } := by
  obtain ⟨m, ⟨o, es, ep, ho, r⟩, _⟩ := id I.loc
  obtain ⟨sl, hL⟩ := u.any ho I.free (by simp)
  exact I.step (g' := s.gens) (d' := s.drawn) (ch := []) (fun _ z => nomatch z) (fun b o _ hb _ e n => u.keep b o e n hb (by simp)) (fun b o _ hb _ e n => u.slot b o e n hb (by simp)) (fun b o _ e n => u.free b o e n (by simp)) (fun b o _ e => u.there b o e (by simp)) u.tups u.frzs u.tbls (fun m' hm => by
    obtain ⟨o', es', ep', ho', r'⟩ := hm
    rw [ho] at ho'; cases ho'
    exact ⟨_, es', ep', hL, r'⟩) hok I.bare
/-- behind a call (or a comprehension's block): the slots of this frame may have changed too, the records at ch may have turned -/
theorem Inv.call {g' : Array GenState} {t' : Nat} {d' : Drawn} {ch : List Addr} (I : Inv X pins σ H s) (u : Un (frs X.stack) ch H H' s.heap h') (hok : HOk X.prog X.w H' h') (hg : AllBare g')
    (hch : ∀ b ∈ ch, (b ∈ X.ex ∨ X.s₀.heap.objs.size ≤ b) ∧ b ≠ X.env.locals ∧ (∀ x c, X.env.cells.lookup x = some c → c ≠ b) ∧ ∀ p ∈ X.pn ++ pins, p.1 ≠ b) :
    Inv X pins σ H' { s with heap := h', gens := g', drawn := d', toks := t' } := by
  obtain ⟨m, ⟨o, es, ep, ho, r⟩, _⟩ := id I.loc
  obtain ⟨sl, hL⟩ := u.any ho I.free fun z => (hch _ z).2.1 rfl
  exact I.step (ch := ch) hch (fun b o hL hb hc e n => u.keep b o e n (fun z => (List.mem_cons.mp (I.stkSub b z)).elim hL hb) hc) (fun b o _ _ hc e n => u.any e n hc) (fun b o hc e n => u.free b o e n hc) (fun b o hc e => u.there b o e hc) u.tups u.frzs u.tbls (fun m' hm => by
    obtain ⟨o', es', ep', ho', r'⟩ := hm
    rw [ho] at ho'; cases ho'
    exact ⟨_, es', ep', hL, r'⟩) hok hg
/-- an untracked record of ours (an iterator) has turned -/
theorem Inv.turned {t' : Nat} {it : Addr} (I : Inv X pins σ H s) (k : ∀ b o, b ≠ it → s.heap.get? b = some o → h'.get? b = some o) (hn : H it = none) (hL : it ≠ X.env.locals)
    (h1 : it ∈ X.ex ∨ X.s₀.heap.objs.size ≤ it) (h2 : ∀ x c, X.env.cells.lookup x = some c → c ≠ it) (h3 : ∀ p ∈ X.pn ++ pins, p.1 ≠ it) : Inv X pins σ H { s with heap := h', toks := t' } := by
  have nit : ∀ b u, H b = some u → b ≠ it := fun b u e z => by rw [z, hn] at e; cases e
  refine I.step (g' := s.gens) (d' := s.drawn) (ch := [it]) (fun b hb => ?_) (fun b o _ _ hc e _ => k b o (fun z => hc (by simp [z])) e) (fun b o _ _ hc e _ => ⟨o.slots, k b o (fun z => hc (by simp [z])) e⟩) (fun _ _ _ _ n => n)
    (fun b o hc e => ⟨o, k b o (fun z => hc (by simp [z])) e⟩) (fun _ _ e => e) (fun _ _ _ e => e) (fun b ps e => ⟨#[], by rw [e]; simp⟩) (fun m hm => ?_) (fun b u e => ?_) I.bare
  · have e : b = it := by simpa using hb
    subst e
    exact ⟨h1, hL, h2, h3⟩
  · obtain ⟨o, es, ep, ho, r⟩ := hm
    exact ⟨o, es, ep, k _ o (Ne.symm hL) ho, r⟩
  · refine (I.hok b u e).stay (fun c v hc q => k c v ?_ q) (fun _ q => q) fun _ _ q => q
    rcases hc with z | z
    · rw [z]; exact nit b u e
    · exact nit c _ z
theorem Inv.tok (I : Inv X pins σ H s) (t : Nat) : Inv X pins σ H { s with toks := t } := I.un (h' := s.heap) (t' := t) Un.refl I.hok
/-- all objects kept -/
theorem Inv.kept {t' : Nat} (I : Inv X pins σ H s) (k : ∀ b u, s.heap.get? b = some u → h'.get? b = some u) : Inv X pins σ H { s with heap := h', toks := t' } := I.un (Un.kept k) (I.hok.kept k)
/-- a new object laid and tracked -/
theorem Inv.laid {a : Addr} {o : HO} {t' : Nat} (I : Inv X pins σ H s) (k : ∀ b u, s.heap.get? b = some u → h'.get? b = some u) (hp : s.heap.objs.size ≤ a) (new : ObjOk X.prog X.w (upd H a o) h' a o) :
    Inv X pins σ (upd H a o) { s with heap := h', toks := t' } := I.un (Un.laid k hp (I.hok.fresh hp)) (I.hok.laid k hp new)
/-- an object written -/
theorem Inv.write {x e : Addr} {o : HO} {t' : Nat} (I : Inv X pins σ H s) (mu : Mut (H x)) (he : e = x ∨ H e = some (.own x)) (k : ∀ b u, b ≠ e → s.heap.get? b = some u → h'.get? b = some u) (heo : ∃ u, h'.get? e = some u)
    (new : ObjOk X.prog X.w (upd H x o) h' x o) : Inv X pins σ (upd H x o) { s with heap := h', toks := t' } := I.un (Un.write mu he k heo) (I.hok.write mu he k heo new)
/-- forgetting slots, pins -/
theorem Inv.weak {σ' : List (Option V)} (I : Inv X pins σ H s) (hl : σ'.length = σ.length) (w : ∀ (i : Nat) v, σ'[i]? = some (some v) → σ[i]? = some (some v)) : Inv X pins σ' H s :=
  ⟨I.ok, I.os, I.bare, I.base, let ⟨m, hn, hl'⟩ := I.loc; ⟨m, hn, fun i x v e1 e2 e3 => hl' i x v e1 (w i v e2) e3⟩, I.cell, I.free, I.freeC, I.pin, I.hok, hl.trans I.len⟩
theorem Inv.pins_of {pins' : List (Addr × Obj)} (I : Inv X pins σ H s) (h : ∀ p ∈ pins', s.heap.get? p.1 = some p.2 ∧ H p.1 = none ∧ p.1 ≠ X.env.locals ∧ p.1 ∉ X.fs ∧ ∀ v, p.2.data ≠ .cell v) : Inv X pins' σ H s :=
  ⟨I.ok, I.os, I.bare, I.base, I.loc, I.cell, I.free, I.freeC, fun p hp => (List.mem_append.mp hp).elim (fun z => I.pin p (List.mem_append_left _ z)) (h p), I.hok, I.len⟩

theorem nodup_ix {N : List Str} (hN : N.Nodup) {i j : Nat} {x : Str} (a : N[i]? = some x) (b : N[j]? = some x) : i = j := by
  obtain ⟨h1, e1⟩ := List.getElem?_eq_some_iff.mp a
  obtain ⟨h2, e2⟩ := List.getElem?_eq_some_iff.mp b
  exact (List.getElem_inj hN).mp (e1.trans e2.symm)

/-- a name is stored; what changed -/
theorem store_ok2 {M : Model} {A : Around} {E : Value → Shared → Prop} {i : Nat} {x : Str} {v : V} {u : Value} {Q : Unit → Shared → Prop} (I : Inv X pins σ H s) (hN : X.N.Nodup) (hi : X.N[i]? = some x) (hx : Loc X.env.scope x) (r : RelV v u)
    (h : ∀ s', Inv X pins (σ.set i (some v)) H s' → (∃ a, Heap.SameBut a s.heap s'.heap ∧ (a = X.env.locals ∨ X.env.cells.lookup x = some a)) → Q () s') (hf : X.fn x = true ∨ X.env.scope.names.lookup x = some .local := by first | exact .inl rfl | exact .inr rfl | assumption) : wpAny M A (storeName X.env x u) Q E s := by
  obtain ⟨m, hn, hl⟩ := id I.loc
  have hcls : (X.env.scope.kind == .class || (X.env.scope.kind == .module && X.env.locals != X.env.globals)) = false := by rw [I.ok.kind]; rfl
  have hiσ : i < σ.length := by rw [I.len]; exact (List.getElem?_eq_some_iff.mp hi).1
  have cne := I.cne
  have tracked : ∀ {a : Addr} {h' : Heap}, (∃ o, s.heap.get? a = some o ∧ H a = none) → Heap.SameBut a s.heap h' → HOk X.prog X.w H h' := fun {a h'} ha hs b ob e => by
    obtain ⟨_, _, hfree⟩ := ha
    refine (I.hok b ob e).stay (fun c w' hc q => (hs.2 c ?_).trans q) (fun _ q => q) fun _ _ q => q
    rintro rfl
    rcases hc with rfl | hc
    · rw [hfree] at e; cases e
    · rw [hfree] at hc; cases hc
  rcases hx with hk | hk
  · refine wpAny_storeName_local hk hn (fun h' hn' hs => ?_) hcls
    obtain ⟨oL, _, _, hoL, _⟩ := id hn
    refine h _ ⟨I.ok, I.os, I.bare, ⟨fun b o e n hb hx => ?_, fun b o e n hb hx => ?_, I.base.free, fun b o e hx => ?_, I.base.tups, I.base.frzs, I.base.tbls⟩, ⟨_, hn', fun j y v' e1 e2 e3 => ?_⟩, fun y c e => ?_, I.free, I.freeC, fun p hp => ?_, tracked ⟨oL, hoL, I.free⟩ hs, by simpa using I.len⟩ ⟨_, hs, .inl rfl⟩
    · exact (hs.2 b (Nat.ne_of_lt (Nat.lt_of_lt_of_le (Heap.lt_size e) I.ok.above))).trans (I.base.keep b o e n hb hx)
    · obtain ⟨sl, e1⟩ := I.base.slot b o e n hb hx
      exact ⟨sl, (hs.2 b (Nat.ne_of_lt (Nat.lt_of_lt_of_le (Heap.lt_size e) I.ok.above))).trans e1⟩
    · obtain ⟨o', e1⟩ := I.base.there b o e hx
      exact ⟨o', (hs.2 b (Nat.ne_of_lt (Nat.lt_of_lt_of_le (Heap.lt_size e) I.ok.above))).trans e1⟩
    · by_cases hj : j = i
      · subst hj
        rw [hi] at e1; cases e1
        rw [List.getElem?_set_self hiσ] at e2
        cases e2
        exact ⟨u, r, .inl ⟨hk, by simp⟩⟩
      · rw [List.getElem?_set_ne (Ne.symm hj)] at e2
        obtain ⟨u', r', q⟩ := hl j y v' e1 e2 e3
        refine ⟨u', r', ?_⟩
        rcases q with ⟨k, e⟩ | ⟨k, c, e, z⟩
        · refine .inl ⟨k, ?_⟩
          have : y ≠ x := fun e => hj (nodup_ix hN e1 (e ▸ hi))
          simp [this, e]
        · exact .inr ⟨k, c, e, z.sameBut hs (cne y c e)⟩
    · obtain ⟨w', z⟩ := I.cell y c e
      exact ⟨w', z.sameBut hs (cne y c e)⟩
    · obtain ⟨e, n, ne, nf, d⟩ := I.pin p hp
      exact ⟨(hs.2 p.1 ne).trans e, n, ne, nf, d⟩
  · have hfn : X.fn x = true := by
      rcases hf with z | z
      · exact z
      · rw [z] at hk; cases hk
    obtain ⟨c, hc⟩ := I.ok.has x (.inl hk)
    obtain ⟨w', z⟩ := I.cell x c hc
    refine wpAny_storeName_cell I.ok.kind hk hc z (fun h' hc' hs => ?_)
    obtain ⟨oc, hoc, hocd⟩ := id z
    refine h { s with heap := h' } ⟨I.ok, I.os, I.bare, ⟨fun b o e n hb hx => ?_, fun b o e n hb hx => ?_, I.base.free, fun b o e hx => ?_, I.base.tups, I.base.frzs, I.base.tbls⟩, ⟨m, hn.sameBut hs (Ne.symm (cne x c hc)), fun j y v' e1 e2 e3 => ?_⟩, fun y c' e => ?_, I.free, I.freeC, fun p hp => ?_, tracked ⟨oc, hoc, I.freeC x c hc⟩ hs, by simpa using I.len⟩ ⟨c, hs, .inr hc⟩
    · exact (hs.2 b (Nat.ne_of_lt (Nat.lt_of_lt_of_le (Heap.lt_size e) (I.ok.cab x c hfn hc)))).trans (I.base.keep b o e n hb hx)
    · obtain ⟨sl, e1⟩ := I.base.slot b o e n hb hx
      exact ⟨sl, (hs.2 b (Nat.ne_of_lt (Nat.lt_of_lt_of_le (Heap.lt_size e) (I.ok.cab x c hfn hc)))).trans e1⟩
    · obtain ⟨o', e1⟩ := I.base.there b o e hx
      exact ⟨o', (hs.2 b (Nat.ne_of_lt (Nat.lt_of_lt_of_le (Heap.lt_size e) (I.ok.cab x c hfn hc)))).trans e1⟩
    · by_cases hj : j = i
      · subst hj
        rw [hi] at e1; cases e1
        rw [List.getElem?_set_self hiσ] at e2
        cases e2
        exact ⟨u, r, .inr ⟨.inl hk, c, hc, hc'⟩⟩
      · rw [List.getElem?_set_ne (Ne.symm hj)] at e2
        obtain ⟨u', r', q⟩ := hl j y v' e1 e2 e3
        refine ⟨u', r', ?_⟩
        rcases q with q | ⟨k, c', e, z'⟩
        · exact .inl q
        · refine .inr ⟨k, c', e, z'.sameBut hs ?_⟩
          rintro rfl
          exact hj (nodup_ix hN e1 (I.ok.inj _ _ _ e hc ▸ hi))
    · by_cases hcc : c' = c
      · subst hcc; exact ⟨_, hc'⟩
      · obtain ⟨w2, z2⟩ := I.cell y c' e
        exact ⟨w2, z2.sameBut hs hcc⟩
    · obtain ⟨e, n, ne, nf, d⟩ := I.pin p hp
      refine ⟨(hs.2 p.1 ?_).trans e, n, ne, nf, d⟩
      intro q
      rw [q, hoc] at e
      have q' : oc = p.2 := Option.some.inj e
      exact d w' (by rw [← q']; exact hocd)
theorem store_ok {M : Model} {A : Around} {E : Value → Shared → Prop} {i : Nat} {x : Str} {v : V} {u : Value} {Q : Unit → Shared → Prop} (I : Inv X pins σ H s) (hN : X.N.Nodup) (hi : X.N[i]? = some x) (hx : Loc X.env.scope x) (r : RelV v u)
    (h : ∀ s', Inv X pins (σ.set i (some v)) H s' → Q () s') (hf : X.fn x = true ∨ X.env.scope.names.lookup x = some .local := by first | exact .inl rfl | exact .inr rfl | assumption) : wpAny M A (storeName X.env x u) Q E s :=
  store_ok2 I hN hi hx r (fun s' I' _ => h s' I') hf
/-- behind a call or a block, the state as it is -/
theorem Inv.call' {s' : Shared} {ch : List Addr} (I : Inv X pins σ H s) (ho : s'.os = s.os) (u : Un (frs X.stack) ch H H' s.heap s'.heap) (hok : HOk X.prog X.w H' s'.heap) (hg : AllBare s'.gens)
    (hch : ∀ b ∈ ch, (b ∈ X.ex ∨ X.s₀.heap.objs.size ≤ b) ∧ b ≠ X.env.locals ∧ (∀ x c, X.env.cells.lookup x = some c → c ≠ b) ∧ ∀ p ∈ X.pn ++ pins, p.1 ≠ b) : Inv X pins σ H' s' := by
  obtain ⟨h', g', d', t', o'⟩ := s'
  have e : o' = s.os := ho
  subst e
  exact I.call (g' := g') (t' := t') (d' := d') u hok hg hch
end

/-! ### the judgements -/
/-- an exception: its class, its own dict's address (where it has one), the abstract heap behind it -/
abbrev XK := Value → Option Addr → Hp → Prop
abbrev St := List (Option V)
abbrev VK := V → Hp → Prop
/-- an expression's reading; a test's; an argument list's -/
abbrev TE := St → Hp → VK → Prop
abbrev TT := St → Hp → (Bool → Hp → Prop) → Prop
abbrev TA := St → Hp → (List V → Hp → Prop) → Prop
/-- what is wanted behind a statement -/
structure Ends where
  nx : St → Hp → Prop
  rt : VK
  bk : St → Hp → Prop := fun _ _ => False
  ct : St → Hp → Prop := fun _ _ => False
abbrev TS := Ends → St → Hp → Prop

def EP (X : Cx) (pins : List (Addr × Obj)) (σ : St) (Q : VK) (u : Value) (s' : Shared) : Prop := ∃ v H', Inv X pins σ H' s' ∧ RelV v u ∧ Q v H'
def TP (X : Cx) (pins : List (Addr × Obj)) (σ : St) (Q : Bool → Hp → Prop) (b : Bool) (s' : Shared) : Prop := ∃ H', Inv X pins σ H' s' ∧ Q b H'
def AP (X : Cx) (pins : List (Addr × Obj)) (σ : St) (Q : List V → Hp → Prop) (us : List Value) (s' : Shared) : Prop := ∃ vs H', Inv X pins σ H' s' ∧ Vals vs us ∧ Q vs H'
def SP (X : Cx) (pins : List (Addr × Obj)) (D : Ends) (f : Flow) (s' : Shared) : Prop :=
  match f with
  | .next => ∃ σ' H', Inv X pins σ' H' s' ∧ D.nx σ' H'
  | .brk => ∃ σ' H', Inv X pins σ' H' s' ∧ D.bk σ' H'
  | .cont => ∃ σ' H', Inv X pins σ' H' s' ∧ D.ct σ' H'
  | .ret u => ∃ v σ' H', Inv X pins σ' H' s' ∧ RelV v u ∧ D.rt v H'

def PE (X : Cx) (e : Expr) (t : TE) : Prop :=
  ∀ (pins : List (Addr × Obj)) (s : Shared) (σ : St) (H : Hp) (Q : VK), Inv X pins σ H s → t σ H Q → wpAny (model X.prog X.w) X.A (eval e X.env) (EP X pins σ Q) X.xe s
def PT (X : Cx) (e : Expr) (t : TT) : Prop :=
  ∀ (pins : List (Addr × Obj)) (s : Shared) (σ : St) (H : Hp) (Q : Bool → Hp → Prop), Inv X pins σ H s → t σ H Q → wpAny (model X.prog X.w) X.A (isTrue e X.env (eval e X.env)) (TP X pins σ Q) X.xe s
/-- a test whatever its 'whole' is (and, or) -/
def PW (X : Cx) (e : Expr) (t : TT) : Prop :=
  ∀ (whole : Sem Value) (pins : List (Addr × Obj)) (s : Shared) (σ : St) (H : Hp) (Q : Bool → Hp → Prop), Inv X pins σ H s → t σ H Q → wpAny (model X.prog X.w) X.A (isTrue e X.env whole) (TP X pins σ Q) X.xe s
theorem PW.pt {X : Cx} {e : Expr} {t : TT} (h : PW X e t) : PT X e t := h _
/-- an argument list (no star), from the left -/
def PA (X : Cx) (es : List Expr) (t : TA) : Prop :=
  ∀ (pos : Pos) (pins : List (Addr × Obj)) (s : Shared) (σ : St) (H : Hp) (Q : List V → Hp → Prop), Inv X pins σ H s → t σ H Q → wpAny (model X.prog X.w) X.A (spliced (backTo pos (starEach es X.env))) (AP X pins σ Q) X.xe s
def PS (X : Cx) (st : Stmt) (t : TS) : Prop :=
  ∀ (pins : List (Addr × Obj)) (s : Shared) (σ : St) (H : Hp) (D : Ends), Inv X pins σ H s → t D σ H → wpAny (model X.prog X.w) X.A (exec st X.env) (SP X pins D) X.xe s
def PSs (X : Cx) (st : List Stmt) (t : TS) : Prop :=
  ∀ (pins : List (Addr × Obj)) (s : Shared) (σ : St) (H : Hp) (D : Ends), Inv X pins σ H s → t D σ H → wpAny (model X.prog X.w) X.A (execs st X.env) (SP X pins D) X.xe s
/-- weaken the end -/
theorem thn {α : Type} {t : Sem α} {Q Q' : α → Shared → Prop} {M : Model} {A : Around} {E : Value → Shared → Prop} {s : Shared} (h : wpAny M A t Q E s) (hQ : ∀ a s, Q a s → Q' a s) : wpAny M A t Q' E s := wpAny_mono h hQ fun _ _ x => x
end L2

namespace L2
open PySem PySem.Spec PyProof.Rows
section
variable {X : Cx}


/-! ### names and constants -/
def tVar (i : Nat) : TE := fun σ H Q => ∃ v, σ[i]? = some (some v) ∧ Q v H
def tC (v : V) : TE := fun _ H Q => Q v H
theorem pe_var {i : Nat} {x : Str} {pos : Pos} (hN : X.N[i]? = some x) (hv : Vis X.env.scope x) (hd : (x == ("__debug__" : Str)) = false := by decide) (hcd : (x == ("__classdict__" : Str)) = false := by decide) : PE X (.Name x pos) (tVar i) := by
  intro pins s σ H Q I h
  obtain ⟨v, e, h⟩ := h
  obtain ⟨m, hn, hl⟩ := I.loc
  obtain ⟨u, r, l⟩ := hl i x v hN e hv
  have fin : EP X pins σ Q u s := ⟨v, H, I, r, h⟩
  rcases l with ⟨hk, hm⟩ | ⟨hk, c, hc, hcell⟩
  · exact wpAny_Name (wpAny_loadName_local I.ok.kind hk hn hm fin) hd
  · rcases hk with hk | hk
    · exact wpAny_Name (wpAny_loadName_cell I.ok.kind hk hc hcell fin) hd
    · exact wpAny_Name (wpAny_loadName_free I.ok.kind hk hc hcell fin hcd) hd
theorem pe_int {i j pos} : PE X (.Constant (.int i) j pos) (tC (.int i)) := fun _ _ _ H _ I h => wpAny_Constant_int ⟨.int i, H, I.tok _, ⟨_, rfl⟩, h⟩
theorem pe_bl {b j pos} : PE X (.Constant (.bool b) j pos) (tC (.bl b)) := fun _ _ _ H _ I h => Constant_bool ⟨.bl b, H, I, rfl, h⟩
theorem pe_non {j pos} : PE X (.Constant .none j pos) (tC .non) := fun _ _ _ H _ I h => Constant_none ⟨.non, H, I, rfl, h⟩
theorem pe_str {x j pos} : PE X (.Constant (.str x) j pos) (tC (.str x)) := fun _ _ _ H _ I h => Calls.Constant_str ⟨.str x, H, I.tok _, ⟨_, rfl⟩, h⟩

/-- a global name of the def -/
def Gl (X : Cx) (x : Str) : Prop := X.env.kindOf x = some .globalImplicit
theorem ld_glob {E : Value → Shared → Prop} {pins : List (Addr × Obj)} {s : Shared} {σ : St} {H : Hp} {x : Str} {u : Value} {pos : Pos} {Q : Value → Shared → Prop} (I : Inv X pins σ H s) (hg : Gl X x) (hm : X.mg x = some u) (h : Q u s)
    (hd : (x == ("__debug__" : Str)) = false := by decide) : wpAny (model X.prog X.w) X.A (eval (.Name x pos) X.env) Q E s :=
  Calls.Name_function_global I.ok.kind hg (Calls.loadGlobal_global (by rw [I.ok.glob]; exact I.mod.glob.keeps I.bk) hm h) hd
theorem ld_blt {E : Value → Shared → Prop} {pins : List (Addr × Obj)} {s : Shared} {σ : St} {H : Hp} {x : Str} {u : Value} {pos : Pos} {Q : Value → Shared → Prop} (I : Inv X pins σ H s) (hg : Gl X x) (hm : X.mg x = none) (hv : bootBuiltins x = some u) (h : Q u s)
    (hn : x ≠ "__name__" := by decide) (hd : (x == ("__debug__" : Str)) = false := by decide) : wpAny (model X.prog X.w) X.A (eval (.Name x pos) X.env) Q E s := by
  obtain ⟨mb, h1, h2⟩ := I.mod.blt
  exact Calls.Name_function_global I.ok.kind hg (Calls.loadGlobal_builtin (by rw [I.ok.glob]; exact I.mod.glob.keeps I.bk) hm (by rw [I.ok.blt]; exact h1.keeps I.bk) ((h2 x hn).trans hv) h) hd
theorem pe_bltn {x : Str} {v : V} {u : Value} {pos : Pos} (hg : Gl X x) (hm : X.mg x = none) (hv : bootBuiltins x = some u) (r : RelV v u) (hn : x ≠ "__name__" := by decide) (hd : (x == ("__debug__" : Str)) = false := by decide) : PE X (.Name x pos) (tC v) :=
  fun _ _ _ H _ I h => ld_blt I hg hm hv ⟨v, H, I, r, h⟩ hn hd

/-! ### arithmetic -/
variable {a b : Expr} {ta tb : TE} {pos : Pos}

/-! ### comparisons -/
/-- a comparison as a value, as a test -/
def tB (t : TE) : TT := fun σ H Q => t σ H fun x H1 => ∃ c, x = .bl c ∧ Q c H1
/-- an expression whose value is a bool, as a test -/
theorem pt_val {e : Expr} {t : TE} (h : PE X e t) (he : ∀ whole, isTrue e X.env whole = (do let v ← whole; standAt e.pos; holding [v] (truthy v)) := by intro _; rfl) : PT X e (tB t) := by
  intro pins s σ H Q I hw
  refine isTrue_plain (thn (h pins s σ H _ I hw) fun v s1 ⟨x, H1, I1, r1, q1⟩ => ?_) (he _)
  obtain ⟨d, rfl, q⟩ := q1
  cases r1
  exact wpAny_truthy_bool ⟨H1, I1, q⟩

/-! ### and, or, not -/
variable {tA tB' : TT} {rest : List Expr}
def tAnd (t u : TT) : TT := fun σ H Q => t σ H fun c H1 => if c = true then u σ H1 Q else Q false H1
def tOr (t u : TT) : TT := fun σ H Q => t σ H fun c H1 => if c = true then Q true H1 else u σ H1 Q
def tNot (t : TT) : TT := fun σ H Q => t σ H fun c H1 => Q (!c) H1
theorem pw_and1 (ha : PT X a tA) : PW X (.BoolOp .And [a] pos) tA := by
  intro wh pins s σ H Q I h
  refine isTrue_and (thn (ha pins s σ H Q I h) fun c s1 e => ?_)
  cases c with
  | true => exact isTrue_and_nil e
  | false => exact e
theorem pw_or1 (ha : PT X a tA) : PW X (.BoolOp .Or [a] pos) tA := by
  intro wh pins s σ H Q I h
  refine isTrue_or (thn (ha pins s σ H Q I h) fun c s1 e => ?_)
  cases c with
  | false => exact isTrue_or_nil e
  | true => exact e
theorem pw_and (ha : PT X a tA) (hb : PW X (.BoolOp .And (b :: rest) pos) tB') : PW X (.BoolOp .And (a :: b :: rest) pos) (tAnd tA tB') := by
  intro wh pins s σ H Q I h
  refine isTrue_and (thn (ha pins s σ H _ I h) fun c s1 ⟨H1, I1, q1⟩ => ?_)
  cases c with
  | true => exact hb wh pins s1 σ H1 Q I1 q1
  | false => exact ⟨H1, I1, q1⟩
theorem pw_or (ha : PT X a tA) (hb : PW X (.BoolOp .Or (b :: rest) pos) tB') : PW X (.BoolOp .Or (a :: b :: rest) pos) (tOr tA tB') := by
  intro wh pins s σ H Q I h
  refine isTrue_or (thn (ha pins s σ H _ I h) fun c s1 ⟨H1, I1, q1⟩ => ?_)
  cases c with
  | true => exact ⟨H1, I1, q1⟩
  | false => exact hb wh pins s1 σ H1 Q I1 q1
theorem pt_not (ha : PT X a tA) : PT X (.UnaryOp .Not a pos) (tNot tA) := by
  intro pins s σ H Q I h
  exact isTrue_not (ha pins s σ H (fun c H1 => Q (!c) H1) I h)
/-- .. as values (bools) -/
def tAndV (ta tb : TE) : TE := fun σ H Q => ta σ H fun x H1 => ∃ c, x = .bl c ∧ if c = true then tb σ H1 Q else Q (.bl false) H1
def tOrV (ta tb : TE) : TE := fun σ H Q => ta σ H fun x H1 => ∃ c, x = .bl c ∧ if c = true then Q (.bl true) H1 else tb σ H1 Q
def tNotV (ta : TE) : TE := fun σ H Q => ta σ H fun x H1 => ∃ c, x = .bl c ∧ Q (.bl (!c)) H1
theorem pe_one {op} {t : TE} (h : PE X a t) : PE X (.BoolOp op [a] pos) t := fun pins s σ H Q I hw => BoolOp_one (h pins s σ H Q I hw)
theorem pe_and (ha : PE X a ta) (hb : PE X (.BoolOp .And (b :: rest) pos) tb) : PE X (.BoolOp .And (a :: b :: rest) pos) (tAndV ta tb) := by
  intro pins s σ H Q I h
  refine BoolOp_and (thn (ha pins s σ H _ I h) fun v s1 ⟨x, H1, I1, r1, q1⟩ => ?_)
  obtain ⟨c, rfl, q1⟩ := q1
  cases r1
  refine wpAny_truthy_bool ?_
  cases c with
  | true => exact hb pins s1 σ H1 Q I1 q1
  | false => exact ⟨.bl false, H1, I1, rfl, q1⟩
theorem pe_or (ha : PE X a ta) (hb : PE X (.BoolOp .Or (b :: rest) pos) tb) : PE X (.BoolOp .Or (a :: b :: rest) pos) (tOrV ta tb) := by
  intro pins s σ H Q I h
  refine BoolOp_or (thn (ha pins s σ H _ I h) fun v s1 ⟨x, H1, I1, r1, q1⟩ => ?_)
  obtain ⟨c, rfl, q1⟩ := q1
  cases r1
  refine wpAny_truthy_bool ?_
  cases c with
  | false => exact hb pins s1 σ H1 Q I1 q1
  | true => exact ⟨.bl true, H1, I1, rfl, q1⟩
theorem pe_not (ha : PE X a ta) : PE X (.UnaryOp .Not a pos) (tNotV ta) := by
  intro pins s σ H Q I h
  refine UnaryOp_ (thn (ha pins s σ H _ I h) fun v s1 ⟨x, H1, I1, r1, q1⟩ => ?_)
  obtain ⟨c, rfl, q1⟩ := q1
  cases r1
  exact not_of (wpAny_truthy_bool ⟨.bl (!c), H1, I1, rfl, q1⟩)
end
end L2

namespace L2
open PySem PySem.Spec PyProof.Rows

/-! ### a list, a tuple that is read: tracked, frozen, or an object of the module -/
def SqL (K : PySem.W.Frag) (H : Hp) (a : Addr) (xs : List V) : Prop :=
  Rd H a (.lst xs) ∨
    ∃ (o : Obj) (its : Array Value) (n : Nat), K.lookup a = some o ∧ o.cls = .type "list" ∧ o.dict = none ∧ o.data = .seq its n ∧ its.size ≤ sizeLine ∧ Vals xs its.toList
def SqT (K : PySem.W.Frag) (H : Hp) (a : Addr) (xs : List V) : Prop :=
  Rd H a (.tup xs) ∨
    ∃ (o : Obj) (its : Array Value) (n : Nat), K.lookup a = some o ∧ o.cls = .type "tuple" ∧ o.data = .seq its n ∧ its.size ≤ sizeLine ∧ Vals xs its.toList
def absV : Value → Option V
  | .none => some .non
  | .bool b => some (.bl b)
  | .int i _ => some (.int i)
  | .str x _ => some (.str x)
  | .bytes b _ => some (.byt b)
  | .float b _ => some (.flt b)
  | .ref a => some (.ref a)
  | .type n => some (.ty n)
  | _ => none
theorem RelV.abs {x : V} {u : Value} (r : RelV x u) : absV u = some x := by
  cases x with
  | non => cases r; rfl
  | bl _ => cases r; rfl
  | int _ => obtain ⟨t, rfl⟩ := r; rfl
  | str _ => obtain ⟨t, rfl⟩ := r; rfl
  | byt _ => obtain ⟨t, rfl⟩ := r; rfl
  | flt _ => obtain ⟨t, rfl⟩ := r; rfl
  | ref _ => cases r; rfl
  | ty _ => cases r; rfl
theorem RelV.inj {x y : V} {u : Value} (r : RelV x u) (q : RelV y u) : x = y := Option.some.inj (r.abs.symm.trans q.abs)
theorem Vals.inj : ∀ {xs ys : List V} {us : List Value}, Vals xs us → Vals ys us → xs = ys
  | _, _, _, .nil, .nil => rfl
  | _, _, _, .cons r t, .cons r' t' => by rw [r.inj r', Vals.inj t t']
section
variable {X : Cx} {pins : List (Addr × Obj)} {σ : St} {H : Hp} {s : Shared} {a : Addr} {xs ys : List V}
theorem SqL.of {K : PySem.W.Frag} (h : H a = some (.lst xs)) : SqL K H a xs := .inl (.inl h)
theorem SqT.of {K : PySem.W.Frag} (h : H a = some (.tup xs)) : SqT K H a xs := .inl (.inl h)
theorem Inv.list (I : Inv X pins σ H s) (h : SqL X.K H a xs) : ∃ its : List Value, Vals xs its ∧ PlainL s.heap a its.toArray ∧ xs.length ≤ sizeLine := by
  rcases h with h | ⟨o, its, n, hk, hc, hd, hs, hz, r⟩
  · obtain ⟨z, its, n, r, e⟩ := h.ok I.hok
    exact ⟨its, r, ⟨_, n, e, rfl, rfl, rfl⟩, z⟩
  · refine ⟨its.toList, r, ⟨o, n, I.kIn a o hk, hc, hd, by simpa using hs⟩, ?_⟩
    have e := r.length
    simp only [Array.length_toList] at e
    omega
theorem Inv.tuple (I : Inv X pins σ H s) (h : SqT X.K H a xs) : ∃ its : List Value, Vals xs its ∧ IsTup s.heap a its.toArray ∧ xs.length ≤ sizeLine := by
  rcases h with h | ⟨o, its, n, hk, hc, hs, hz, r⟩
  · obtain ⟨z, its, r, p⟩ := h.ok I.hok
    exact ⟨its, r, p, z⟩
  · refine ⟨its.toList, r, ⟨o, I.kIn a o hk, hc, n, by simpa using hs⟩, ?_⟩
    have e := r.length
    simp only [Array.length_toList] at e
    omega
theorem Inv.list_inj (I : Inv X pins σ H s) (h : SqL X.K H a xs) (h' : SqL X.K H a ys) : xs = ys := by
  obtain ⟨its, r, ⟨o, n, e, _, _, d⟩, _⟩ := I.list h
  obtain ⟨its', r', ⟨o', n', e', _, _, d'⟩, _⟩ := I.list h'
  rw [e] at e'; cases e'
  rw [d] at d'
  injection d' with d1 _
  have : its = its' := by simpa using congrArg Array.toList d1
  subst this
  exact r.inj r'
theorem Inv.tuple_inj (I : Inv X pins σ H s) (h : SqT X.K H a xs) (h' : SqT X.K H a ys) : xs = ys := by
  obtain ⟨its, r, ⟨o, e, _, n, d⟩, _⟩ := I.tuple h
  obtain ⟨its', r', ⟨o', e', _, n', d'⟩, _⟩ := I.tuple h'
  rw [e] at e'; cases e'
  rw [d] at d'
  injection d' with d1 _
  have : its = its' := by simpa using congrArg Array.toList d1
  subst this
  exact r.inj r'
end

/-! ### another wish about exceptions -/
abbrev Cx.wish (X : Cx) (E : Value → Shared → Prop) : Cx := { X with xe := E }
/-- no exception leaves -/
abbrev Cx.nox (X : Cx) : Cx := X.wish fun _ _ => False
theorem Cx.Ok.wish {X : Cx} (ok : X.Ok) (E : Value → Shared → Prop) : (X.wish E).Ok :=
  ⟨ok.mod, ok.kind, ok.glob, ok.blt, ok.above, ok.inj, ok.has, ok.cab, ok.hd, ok.frames, ok.stk, ok.exf, ok.bs, ok.bsz, ok.noex, ok.exfs, ok.funs, ok.frf⟩
theorem Cx.Ok.unwish {X : Cx} {E : Value → Shared → Prop} (ok : (X.wish E).Ok) : X.Ok :=
  ⟨ok.mod, ok.kind, ok.glob, ok.blt, ok.above, ok.inj, ok.has, ok.cab, ok.hd, ok.frames, ok.stk, ok.exf, ok.bs, ok.bsz, ok.noex, ok.exfs, ok.funs, ok.frf⟩
section
variable {X : Cx} {pins : List (Addr × Obj)} {σ : St} {H : Hp} {s : Shared} {E : Value → Shared → Prop}
theorem Inv.wish (I : Inv X pins σ H s) (E : Value → Shared → Prop) : Inv (X.wish E) pins σ H s := ⟨I.ok.wish E, I.os, I.bare, I.base, I.loc, I.cell, I.free, I.freeC, I.pin, I.hok, I.len⟩
theorem Inv.unwish (I : Inv (X.wish E) pins σ H s) : Inv X pins σ H s := ⟨I.ok.unwish, I.os, I.bare, I.base, I.loc, I.cell, I.free, I.freeC, I.pin, I.hok, I.len⟩
theorem SP.unwish {D : Ends} {f : Flow} {s' : Shared} (h : SP (X.wish E) pins D f s') : SP X pins D f s' := by
  cases f with
  | next => obtain ⟨σ', H', I, q⟩ := h; exact ⟨σ', H', I.unwish, q⟩
  | brk => obtain ⟨σ', H', I, q⟩ := h; exact ⟨σ', H', I.unwish, q⟩
  | cont => obtain ⟨σ', H', I, q⟩ := h; exact ⟨σ', H', I.unwish, q⟩
  | ret u => obtain ⟨v, σ', H', I, r, q⟩ := h; exact ⟨v, σ', H', I.unwish, r, q⟩
theorem PSs.nox {st : List Stmt} {t : TS} (h : PSs X.nox st t) : PSs X st t := fun pins s σ H D I hw =>
  wpAny_mono (h pins s σ H D (I.wish _) hw) (fun _ _ q => q.unwish) fun _ _ z => False.elim z
end

/-! ### blocks and small statements -/
section
variable {X : Cx} {st : Stmt} {rest : List Stmt} {t u : TS} {e : Expr} {te : TE} {pos : Pos}
def tNext : TS := fun D σ H => D.nx σ H
def tSeq (t u : TS) : TS := fun D σ H => t { D with nx := u D } σ H
theorem pss_nil : PSs X [] tNext := fun _ _ σ H _ I h => wpAny_execs_nil ⟨σ, H, I, h⟩
theorem pss_cons (h1 : PS X st t) (h2 : PSs X rest u) : PSs X (st :: rest) (tSeq t u) := by
  intro pins s σ H D I h
  refine wpAny_execs_cons (thn (h1 pins s σ H { D with nx := u D } I h) fun f s1 q => ?_)
  cases f with
  | next =>
    obtain ⟨σ', H', I', q⟩ := q
    exact h2 pins s1 σ' H' D I' q
  | ret v => exact q
  | brk => exact q
  | cont => exact q
theorem pss_one (h1 : PS X st t) : PSs X [st] t := by
  intro pins s σ H D I h
  refine wpAny_execs_cons (thn (h1 pins s σ H D I h) fun f s1 q => ?_)
  cases f with
  | next => exact wpAny_execs_nil q
  | ret v => exact q
  | brk => exact q
  | cont => exact q
/-- in a def's body nothing is shown -/
theorem Inv.quiet {pins : List (Addr × Obj)} {σ : St} {H : Hp} {s : Shared} (I : Inv X pins σ H s) : interactive X.env = false := by simp [interactive, I.ok.kind]
/-- an expression whose value is dropped -/
def tDrop (te : TE) : TS := fun D σ H => te σ H fun _ H1 => D.nx σ H1
theorem ps_expr (he : PE X e te) (hs : swapsWith e none pos.line X.env = pure false := by rfl) : PS X (.Expr e pos) (tDrop te) := by
  intro pins s σ H D I h
  exact wpAny_Expr_any (thn (he pins s σ H _ I h) fun v s1 ⟨x, H1, I1, r1, q1⟩ => ⟨σ, H1, I1, q1⟩) I.quiet hs
def tRet (te : TE) : TS := fun D σ H => te σ H D.rt
theorem ps_ret (he : PE X e te) : PS X (.Return (some e) pos) (tRet te) := by
  intro pins s σ H D I h
  exact wpAny_Return_some (thn (he pins s σ H _ I h) fun v s1 ⟨x, H1, I1, r1, q1⟩ => ⟨x, σ, H1, I1, r1, q1⟩)
def tIfS (c : TT) (t u : TS) : TS := fun D σ H => c σ H fun b H1 => if b = true then t D σ H1 else u D σ H1
theorem ps_if {c : Expr} {a b : List Stmt} {tc : TT} (hc : PT X c tc) (ha : PSs X a t) (hb : PSs X b u) : PS X (.If c a b pos) (tIfS tc t u) := by
  intro pins s σ H D I h
  refine wpAny_If (thn (hc pins s σ H _ I h) fun d s1 ⟨H1, I1, q1⟩ => ?_)
  cases d with
  | true => exact ha pins s1 σ H1 D I1 q1
  | false => exact hb pins s1 σ H1 D I1 q1
end

/-! ### targets -/
abbrev TG := V → St → Hp → (St → Hp → Prop) → Prop
abbrev TGs := List V → St → Hp → (St → Hp → Prop) → Prop
def PG (X : Cx) (target : Expr) (t : TG) : Prop :=
  ∀ (pins : List (Addr × Obj)) (s : Shared) (σ : St) (H : Hp) (v : V) (u : Value) (Q : St → Hp → Prop), Inv X pins σ H s → RelV v u → t v σ H Q →
    wpAny (model X.prog X.w) X.A (assign target X.env u) (fun _ s' => ∃ σ' H', Inv X pins σ' H' s' ∧ Q σ' H') X.xe s
/-- several targets, one after another -/
def PGs (X : Cx) (ts : List Expr) (t : TGs) : Prop :=
  ∀ (pins : List (Addr × Obj)) (s : Shared) (σ : St) (H : Hp) (vs : List V) (us : List Value) (Q : St → Hp → Prop), Inv X pins σ H s → Vals vs us → t vs σ H Q →
    wpAny (model X.prog X.w) X.A (assignInOrder ((assignEach ts X.env).map (·.2)) us) (fun _ s' => ∃ σ' H', Inv X pins σ' H' s' ∧ Q σ' H') X.xe s
/-- o[i] = v, by values -/
abbrev TSet := V → V → V → Hp → (Hp → Prop) → Prop
def PSet (X : Cx) (t : TSet) : Prop :=
  ∀ (pins : List (Addr × Obj)) (s : Shared) (σ : St) (H : Hp) (o i v : V) (ov iv u : Value) (Q : Hp → Prop), Inv X pins σ H s → RelV o ov → RelV i iv → RelV v u → t o i v H Q →
    wpAny (model X.prog X.w) X.A (setItem ov iv u) (fun _ s' => ∃ H', Inv X pins σ H' s' ∧ Q H') X.xe s
/-- a op= b, by values -/
abbrev TIp := V → V → Hp → VK → Prop
def PIp (X : Cx) (op : Operator) (t : TIp) : Prop :=
  ∀ (pins : List (Addr × Obj)) (s : Shared) (σ : St) (H : Hp) (x y : V) (v u : Value) (Q : VK), Inv X pins σ H s → RelV x v → RelV y u → t x y H Q →
    wpAny (model X.prog X.w) X.A (inplaceOp op v u) (EP X pins σ Q) X.xe s
section
variable {X : Cx} {pos : Pos}
def gName (i : Nat) : TG := fun v σ H Q => Q (σ.set i (some v)) H
theorem pg_name {i : Nat} {x : Str} (hN : X.N.Nodup) (hi : X.N[i]? = some x) (hx : Loc X.env.scope x) (hf : X.fn x = true ∨ X.env.scope.names.lookup x = some .local := by first | exact .inl rfl | exact .inr rfl | assumption) : PG X (.Name x pos) (gName i) := by
  intro pins s σ H v u Q I r h
  exact wpAny_assign_Name (store_ok I hN hi hx r (fun s' I' => ⟨_, H, I', h⟩) hf)
def gNil : TGs := fun vs σ H Q => vs = [] ∧ Q σ H
def gCons (t : TG) (u : TGs) : TGs := fun vs σ H Q => ∃ v r, vs = v :: r ∧ t v σ H fun σ' H' => u r σ' H' Q
theorem pgs_nil : PGs X [] gNil := by
  intro pins s σ H vs us Q I r h
  obtain ⟨e, h⟩ := h
  subst e
  cases r
  exact assignInOrder_nil ⟨σ, H, I, h⟩
theorem pgs_cons {e : Expr} {es : List Expr} {t : TG} {u : TGs} (h1 : PG X e t) (h2 : PGs X es u)
    (hs : (assignEach (e :: es) X.env).map (·.2) = assign e X.env :: (assignEach es X.env).map (·.2) := by rfl) : PGs X (e :: es) (gCons t u) := by
  intro pins s σ H vs us Q I r h
  obtain ⟨v, vr, e1, h⟩ := h
  subst e1
  cases r with
  | cons r rr =>
    rw [hs]
    refine assignInOrder_cons (thn (h1 pins s σ H _ _ _ I r h) fun _ s1 ⟨σ1, H1, I1, q1⟩ => ?_)
    exact h2 pins s1 σ1 H1 _ _ Q I1 rr q1
/-- (a, b, ..) = a tuple of that length -/
def gTup (K : PySem.W.Frag) (n : Nat) (t : TGs) : TG := fun v σ H Q => ∃ a xs, v = .ref a ∧ SqT K H a xs ∧ xs.length = n ∧ t xs σ H Q
theorem pg_tup {es : List Expr} {k : Nat} {t : TGs} {n : Nat} (hc : X.calm = true) (h : PGs X es t)
    (hn : (assignEach es X.env).length = n := by rfl) (hst : (assignEach es X.env).findIdx? (·.1) = none := by rfl) : PG X (.Tuple es k pos) (gTup X.K n t) := by
  intro pins s σ H v u Q I r hw
  obtain ⟨a, xs, e1, hq, hl, hw⟩ := hw
  subst e1
  cases r
  obtain ⟨its, rv, ht, hz⟩ := I.tuple hq
  refine assign_Tuple_tuple (I.ok.hd hc) ht (by simp [hn, ← hl, rv.length]) hst fun h' hx => ?_
  have I1 : Inv X pins σ H { s with heap := h' } := I.kept (t' := s.toks) fun b o e => hx b o (Nat.ne_of_lt (Heap.lt_size e)) e
  exact h pins _ σ H xs _ Q I1 (by simpa using rv) hw
/-- o[i] = .. -/
def gSub (to ti : TE) (t : TSet) : TG := fun v σ H Q => to σ H fun o H1 => ti σ H1 fun i H2 => t o i v H2 fun H3 => Q σ H3
theorem pg_sub {o i : Expr} {to ti : TE} {t : TSet} (ho : PE X o to) (hi : PE X i ti) (hs : PSet X t)
    (ha : ∀ v, assign (.Subscript o i pos) X.env v = (do
      let ov ← holding [v] (eval o X.env)
      let iv ← holding [v, ov] (eval i X.env)
      standAt pos
      holding [v, ov, iv] (setItem ov iv v)
      release [v, ov, iv] []) := by intro _; rfl) : PG X (.Subscript o i pos) (gSub to ti t) := by
  intro pins s σ H v u Q I r h
  rw [ha]
  refine wpAny_bind (wpAny_holding (thn (ho pins s σ H _ I h) fun ov s1 ⟨x, H1, I1, r1, q1⟩ => ?_))
  refine wpAny_bind (wpAny_holding (thn (hi pins s1 σ H1 _ I1 q1) fun iv s2 ⟨y, H2, I2, r2, q2⟩ => ?_))
  refine wpAny_bind (wpAny_standAt (wpAny_bind (wpAny_holding (thn (hs pins s2 σ H2 x y v ov iv u _ I2 r1 r2 r q2) fun _ s3 ⟨H3, I3, q3⟩ => ?_))))
  exact wpAny_release ⟨σ, H3, I3, q3⟩
/-- target = value -/
def tAsg (te : TE) (g : TG) : TS := fun D σ H => te σ H fun x H1 => g x σ H1 D.nx
theorem ps_asg {tg e : Expr} {te : TE} {g : TG} (he : PE X e te) (hg : PG X tg g) (hs : swapsWithSole [tg] e pos.line X.env = pure false := by rfl) (hw : swappedStores [tg] e X.env = pure none := by rfl)
    (h1 : (assignEach [tg] X.env).map (·.2) = [assign tg X.env] := by rfl) : PS X (.Assign [tg] e pos) (tAsg te g) := by
  intro pins s σ H D I h
  refine wpAny_Assign_stores (thn (he pins s σ H _ I h) fun v s1 ⟨x, H1, I1, r1, q1⟩ => ?_) hs hw
  rw [h1]
  exact thn (hg pins s1 σ H1 x v _ I1 r1 q1) fun _ s2 q => q
/-- name = value -/
theorem ps_set {i : Nat} {x : Str} {e : Expr} {te : TE} {pos' : Pos} (hN : X.N.Nodup) (hi : X.N[i]? = some x) (hx : Loc X.env.scope x) (he : PE X e te) (hs : swapsWith e (some (.Name x pos')) pos.line X.env = pure false := by rfl) (hf : X.fn x = true ∨ X.env.scope.names.lookup x = some .local := by first | exact .inl rfl | exact .inr rfl | assumption) :
    PS X (.Assign [.Name x pos'] e pos) (tAsg te (gName i)) := by
  intro pins s σ H D I h
  refine wpAny_Assign_Name (thn (he pins s σ H _ I h) fun v s1 ⟨y, H1, I1, r1, q1⟩ => ?_) hs
  exact store_ok I1 hN hi hx r1 (fun s2 I2 => ⟨_, H1, I2, q1⟩) hf
/-- a, b = x, y with plain local names: stored from the right; the pair itself is not tracked (the opening rows as in PyProof/Rows/TupAssign.lean:23) -/
def tPar (i j : Nat) (ta : TA) : TS := fun D σ H => ta σ H fun vs H1 => ∃ v w, vs = [v, w] ∧ D.nx ((σ.set i (some v)).set j (some w)) H1
theorem ps_par {i j : Nat} {x y : Str} {a b : Expr} {ta : TA} {px py pt : Pos} {kt k2 pt2} (hc : X.calm = true) (hN : X.N.Nodup) (hi : X.N[i]? = some x) (hj : X.N[j]? = some y) (hij : i ≠ j)
    (hx : X.env.scope.names.lookup x = some .local) (hy : X.env.scope.names.lookup y = some .local) (ha : PA X [a, b] ta)
    (hw : swappedStores [.Tuple [.Name x px, .Name y py] kt pt] (.Tuple [a, b] k2 pt2) X.env = pure (some [x, y]))
    (hs : swapsWithSole [.Tuple [.Name x px, .Name y py] kt pt] (.Tuple [a, b] k2 pt2) pos.line X.env = pure false := by rfl) :
    PS X (.Assign [.Tuple [.Name x px, .Name y py] kt pt] (.Tuple [a, b] k2 pt2) pos) (tPar i j ta) := by
  intro pins s σ H D I h
  rw [exec_Assign_arm]
  refine wpAny_bind (wpAny_standAt ?_)
  rw [hs]
  refine wpAny_bind (wpAny_pure ?_)
  rw [if_neg (by decide)]
  refine wpAny_bind (Tuple_ (thn (ha _ pins s σ H _ I h) fun us s1 ⟨vs, H1, I1, r1, q1⟩ => ?_))
  obtain ⟨v, w, e1, q1⟩ := q1
  subst e1
  obtain ⟨u1, u2, rfl, rv, rw'⟩ : ∃ u1 u2, us = [u1, u2] ∧ RelV v u1 ∧ RelV w u2 := by
    cases r1 with
    | cons p q =>
      cases q with
      | cons p' q' =>
        cases q'
        exact ⟨_, _, rfl, p, p'⟩
  refine wpAny_newObj_type ?_ (by show 2 ≤ sizeLine; decide)
  have I2 : Inv X pins σ H1 { s1 with heap := s1.heap.push { cls := .type "tuple", data := .seq [u1, u2].toArray } } := I1.kept (t' := s1.toks) fun b o e => Heap.get?_push_of_some _ e
  rw [hw]
  refine wpAny_bind (wpAny_pure ?_)
  show wpAny (model X.prog X.w) X.A (do rule "assign.swapped-stores"; let items ← unpackItems (.ref s1.heap.objs.size) 2 none; assignInOrder [fun v => bindName X.env y v, fun v => bindName X.env x v] items.reverse; pure Flow.next) _ _ _
  refine wpAny_bind (wpAny_rule (wpAny_bind (unpackItems_tuple (items := #[u1, u2]) (I.ok.hd hc) (IsTup.new s1.heap _) fun h' hx' => ?_)))
  have I3 := I2.kept (h' := h') (t' := s1.toks) fun b o e => hx' b o (Nat.ne_of_lt (Heap.lt_size e)) e
  show wpAny _ _ (assignInOrder [fun v => bindName X.env y v, fun v => bindName X.env x v] [u2, u1] >>= fun _ => pure Flow.next) _ _ _
  refine wpAny_bind (assignInOrder_cons (wpAny_bindName (store_ok I3 hN hj (.inl hy) rw' (fun s2 I4 => ?_) (.inr hy))))
  refine assignInOrder_cons (wpAny_bindName (store_ok I4 hN hi (.inl hx) rv (fun s3 I5 => assignInOrder_nil (wpAny_pure ?_)) (.inr hx)))
  rw [List.set_comm _ _ (Ne.symm hij)] at I5
  exact ⟨_, H1, I5, q1⟩
/-- o[i] op= e -/
def tAugS (to ti te : TE) (tget : V → V → Hp → VK → Prop) (tip : TIp) (tset : TSet) : TS := fun D σ H => to σ H fun o H1 => ti σ H1 fun i H2 => tget o i H2 fun x H3 => te σ H3 fun y H4 => tip x y H4 fun z H5 => tset o i z H5 fun H6 => D.nx σ H6
/-- o[i], by values -/
def PGet (X : Cx) (t : V → V → Hp → VK → Prop) : Prop :=
  ∀ (pins : List (Addr × Obj)) (s : Shared) (σ : St) (H : Hp) (o i : V) (ov iv : Value) (Q : VK), Inv X pins σ H s → RelV o ov → RelV i iv → t o i H Q →
    wpAny (model X.prog X.w) X.A (getItem ov iv) (EP X pins σ Q) X.xe s
theorem ps_augS {o i e : Expr} {to ti te : TE} {tget : V → V → Hp → VK → Prop} {tip : TIp} {tset : TSet} {op : Operator} {tpos : Pos} (ho : PE X o to) (hi : PE X i ti) (hg : PGet X tget) (he : PE X e te) (hp : PIp X op tip) (hs : PSet X tset)
    (ha : ∀ ov iv new, augStore i ov iv new = (do holding [new, ov, iv] (setItem ov iv new); release [new, ov, iv] []; pure .next) := by intros; rfl) : PS X (.AugAssign (.Subscript o i tpos) op e pos) (tAugS to ti te tget tip tset) := by
  intro pins s σ H D I h
  refine wpAny_AugAssign_SubscriptAny (thn (ho pins s σ H _ I h) fun ov s1 ⟨x1, H1, I1, r1, q1⟩ => ?_) ha
  refine thn (hi pins s1 σ H1 _ I1 q1) fun iv s2 ⟨x2, H2, I2, r2, q2⟩ => ?_
  refine thn (hg pins s2 σ H2 x1 x2 ov iv _ I2 r1 r2 q2) fun old s3 ⟨x3, H3, I3, r3, q3⟩ => ?_
  refine thn (he pins s3 σ H3 _ I3 q3) fun v s4 ⟨x4, H4, I4, r4, q4⟩ => ?_
  refine thn (hp pins s4 σ H4 x3 x4 old v _ I4 r3 r4 q4) fun new s5 ⟨x5, H5, I5, r5, q5⟩ => ?_
  exact thn (hs pins s5 σ H5 x1 x2 x5 ov iv new _ I5 r1 r2 r5 q5) fun _ s6 ⟨H6, I6, q6⟩ => ⟨σ, H6, I6, q6⟩
/-- ints -/
def ipI (f : Int → Int → Int) : TIp := fun x y H Q => ∃ i j, x = .int i ∧ y = .int j ∧ Q (.int (f i j)) H
theorem ip_add : PIp X .Add (ipI fun i j => i + j) := by
  intro pins s σ H x y v u Q I r1 r2 h
  obtain ⟨i, j, e1, e2, q⟩ := h
  subst e1; subst e2
  obtain ⟨t, rfl⟩ := r1
  obtain ⟨t', rfl⟩ := r2
  exact iadd_int ⟨.int _, H, I.tok _, ⟨_, rfl⟩, q⟩
theorem ip_sub : PIp X .Sub (ipI fun i j => i - j) := by
  intro pins s σ H x y v u Q I r1 r2 h
  obtain ⟨i, j, e1, e2, q⟩ := h
  subst e1; subst e2
  obtain ⟨t, rfl⟩ := r1
  obtain ⟨t', rfl⟩ := r2
  exact isub_int ⟨.int _, H, I.tok _, ⟨_, rfl⟩, q⟩
end

/-! ### while -/
section
variable {X : Cx} {pos : Pos}
/-- the invariant W with its measure -/
def tWhile (c : TT) (tb : TS) : TS := fun D σ H => ∃ W : Nat → St → Hp → Prop, (∃ m, W m σ H) ∧ ∀ m σ H, W m σ H →
  c σ H fun b H1 => if b = true then ∃ N : St → Hp → Prop, (∀ σ' H', N σ' H' → ∃ m', m' < m ∧ W m' σ' H') ∧ tb { D with nx := N, ct := N, bk := D.nx } σ H1 else D.nx σ H1
theorem ps_while {c : Expr} {body : List Stmt} {tc : TT} {tb : TS} (hp : PassesOwn (model X.prog X.w) X.A X.env X.xe) (hc : PT X c tc) (hb : PSs X body tb) : PS X (.While c body [] pos) (tWhile tc tb) := by
  intro pins s σ H D I h
  obtain ⟨W, ⟨m0, w0⟩, turn⟩ := h
  refine wpAny_While (codeAny_whileLoop (fun n s' => ∃ σ' H', Inv X pins σ' H' s' ∧ W n σ' H') ?_ m0 ⟨σ, H, I, w0⟩)
  rintro n s1 ⟨σ1, H1, I1, w1⟩
  refine wpAny_passesOwn hp (thn (hc pins s1 σ1 H1 _ I1 (turn n σ1 H1 w1)) fun b s2 ⟨H2, I2, q2⟩ => ?_)
  cases b with
  | true =>
    obtain ⟨N, hN, q2⟩ := q2
    rw [if_pos rfl]
    refine wpAny_passesOwn hp (thn (hb pins s2 σ1 H2 _ I2 q2) fun f s3 q3 => ?_)
    cases f with
    | next =>
      obtain ⟨σ3, H3, I3, n3⟩ := q3
      obtain ⟨m', hm, w3⟩ := hN σ3 H3 n3
      exact ⟨m', hm, σ3, H3, I3, w3⟩
    | cont =>
      obtain ⟨σ3, H3, I3, n3⟩ := q3
      obtain ⟨m', hm, w3⟩ := hN σ3 H3 n3
      exact ⟨m', hm, σ3, H3, I3, w3⟩
    | brk => exact q3
    | ret v => exact q3
  | false =>
    rw [if_neg Bool.false_ne_true]
    exact wpAny_execs_nil ⟨σ1, H2, I2, q2⟩
end

/-! ### what a loop or a comprehension walks -/
/-- at turn i: it yields x (the heap may grow), or it stops -/
structure It where
  go : Nat → Hp → Prop
  yld : Nat → Hp → V → Hp → Prop
  stop : Nat → Hp → Prop
/-- the iterator's own objects may turn: they are not the frame's, not pinned, younger than the entry (or a comprehension's own) -/
def FpOk (X : Cx) (pins : List (Addr × Obj)) (H : Hp) (b : Addr) : Prop :=
  H b = none ∧ b ≠ X.env.locals ∧ b ∉ X.fs ∧ (b ∈ X.ex ∨ X.s₀.heap.objs.size ≤ b) ∧ (∀ x c, X.env.cells.lookup x = some c → c ≠ b) ∧ ∀ p ∈ X.pn ++ pins, p.1 ≠ b
theorem Inv.fpOk {X : Cx} {pins : List (Addr × Obj)} {σ : St} {H H' : Hp} {s : Shared} {b : Addr} (I : Inv X pins σ H s) (hb : s.heap.objs.size ≤ b) (hn : H' b = none) : FpOk X pins H' b := by
  refine ⟨hn, Nat.ne_of_gt (Nat.lt_of_lt_of_le I.lt hb), I.nofs hb, .inr (Nat.le_trans I.sz hb), fun x c e z => ?_, fun p hp z => ?_⟩
  · obtain ⟨v, q⟩ := I.cell x c e
    exact absurd (Nat.lt_of_lt_of_le q.lt (by rw [z]; exact hb)) (Nat.lt_irrefl _)
  · exact absurd (Nat.lt_of_lt_of_le (Heap.lt_size (I.pin p hp).1) (by rw [z]; exact hb)) (Nat.lt_irrefl _)
structure Turn (P : Program) (w : World) (K : PySem.W.Frag) (tg : Expr) (J : It) (fp : List Addr) (it : Addr) (tn : Nat → Heap → Prop) : Prop where
  mem : it ∈ fp
  obj : ∀ i h, tn i h → ∀ b ∈ fp, ∃ o, h.get? b = some o ∧ ∀ v, o.data ≠ .cell v
  keep : ∀ i h h', tn i h → (∀ b ∈ fp, ∀ o, h.get? b = some o → h'.get? b = some o) → tn i h'
  item : ∀ (X : Cx), X.prog = P → X.w = w → X.K = K → X.calm = true → ∀ (i : Nat) (pins : List (Addr × Obj)) (s : Shared) (σ : St) (H : Hp) (E : Value → Shared → Prop), Inv X pins σ H s → (∀ b ∈ fp, FpOk X pins H b) → tn i s.heap → J.go i H →
    wpAny (model P w) X.A (pyNext (.ref it)) (fun r s1 => ∃ u, r = some u ∧
      wpAny (model P w) X.A (letOwnedTupleGo tg (.ref it) u) (fun _ s2 => ∃ x H', Inv X pins σ H' s2 ∧ RelV x u ∧ J.yld i H x H' ∧ tn (i + 1) s2.heap ∧ ∀ b ∈ fp, H' b = none) E s1) E s
  done : ∀ (X : Cx), X.prog = P → X.w = w → X.K = K → X.calm = true → ∀ (i : Nat) (pins : List (Addr × Obj)) (s : Shared) (σ : St) (H : Hp) (E : Value → Shared → Prop), Inv X pins σ H s → (∀ b ∈ fp, FpOk X pins H b) → tn i s.heap → J.stop i H →
    wpAny (model P w) X.A (pyNext (.ref it)) (fun r s1 => r = none ∧ Inv X pins σ H s1) E s
  self : ∀ (A : Around) (i : Nat) (s : Shared) (Q : Value → Shared → Prop) (E : Value → Shared → Prop), tn i s.heap → Q (.ref it) s → wpAny (model P w) A (pyIter (.ref it)) Q E s
abbrev TI := St → Hp → (It → Hp → Prop) → Prop
/-- an iterator has come -/
def PIE (X : Cx) (pins : List (Addr × Obj)) (σ : St) (tg : Expr) (R : It → Hp → Prop) (itv : Value) (s2 : Shared) : Prop :=
  ∃ (it : Addr) (fp : List Addr) (tn : Nat → Heap → Prop) (J : It) (H' : Hp), itv = .ref it ∧ Inv X pins σ H' s2 ∧ Turn X.prog X.w X.K tg J fp it tn ∧ tn 0 s2.heap ∧ (∀ b ∈ fp, FpOk X pins H' b) ∧ R J H'
def PI (X : Cx) (tg iter : Expr) (wi : TI) : Prop :=
  ∀ (pins : List (Addr × Obj)) (s : Shared) (σ : St) (H : Hp) (R : It → Hp → Prop), Inv X pins σ H s → wi σ H R →
    wpAny (model X.prog X.w) X.A (eval iter X.env) (fun v s1 => wpAny (model X.prog X.w) X.A (pyIter v) (PIE X pins σ tg R) X.xe s1) X.xe s

/-- the step ahead of the store is nothing for an iterator that keeps no tuple -/
theorem go_of {M : Model} {A : Around} {E : Value → Shared → Prop} {s : Shared} {tg : Expr} {it : Addr} {u : Value} {o : Obj} {n : String} {vs : Array Value} {Q : Unit → Shared → Prop} (ho : s.heap.get? it = some o) (hc : o.cls = .type n) (hd : o.data = .fields vs)
    (hn : ["enumerate", "zip", "dict_itemiterator", "dict_reverseitemiterator", "odict_iterator", "itertools.zip_longest", "itertools.pairwise"].contains n = false) (hQ : Q () s) : wpAny M A (letOwnedTupleGo tg (.ref it) u) Q E s := by
  unfold letOwnedTupleGo
  cases tg <;> first
    | exact wpAny_pure hQ
    | (cases u <;> first
        | exact wpAny_pure hQ
        | (refine wpAny_bind (wpAny_load ho ?_)
           rw [hc, hd]
           show wpAny M A (if (["enumerate", "zip", "dict_itemiterator", "dict_reverseitemiterator", "odict_iterator", "itertools.zip_longest", "itertools.pairwise"].contains n && vs[0]? == some (rawInt _)) = true then _ else _) Q E s
           rw [if_neg (by intro h; rw [hn, Bool.false_and] at h; cases h)]
           exact wpAny_pure hQ))

/-- the list at a, as it stands at each turn (a loop may append to it) -/
def Itl (K : PySem.W.Frag) (a : Addr) : It :=
  ⟨fun i H => ∃ xs x, SqL K H a xs ∧ xs[i]? = some x, fun i H x H' => H' = H ∧ ∀ xs, SqL K H a xs → xs[i]? = some x, fun i H => ∃ xs, SqL K H a xs ∧ xs.length ≤ i⟩
def Itt (K : PySem.W.Frag) (a : Addr) : It :=
  ⟨fun i H => ∃ xs x, SqT K H a xs ∧ xs[i]? = some x, fun i H x H' => H' = H ∧ ∀ xs, SqT K H a xs → xs[i]? = some x, fun i H => ∃ xs, SqT K H a xs ∧ xs.length ≤ i⟩
/-- lo, lo + 1, .. (n of them) -/
def Itr (lo : Int) (n : Nat) : It := ⟨fun i _ => i < n, fun i H x H' => H' = H ∧ x = .int (lo + i), fun i _ => n ≤ i⟩
theorem turn_list {P : Program} {w : World} {K : PySem.W.Frag} {tg : Expr} (a it : Addr) : Turn P w K tg (Itl K a) [it] it (fun i h => h.IsListIter it a i) where
  mem := by simp
  obj := fun i h st b hb => by
    have e : b = it := by simpa using hb
    subst e
    obtain ⟨o, e, c, d⟩ := st
    exact ⟨o, e, fun v z => by rw [d] at z; cases z⟩
  keep := fun i h h' st k => st.at fun o e => k it (by simp) o e
  item := by
    intro X hP hw hK hc i pins s σ H E I hf st hg
    subst hP hw hK
    obtain ⟨xs, x, hq, hx⟩ := hg
    obtain ⟨its, rv, p, hz⟩ := I.list hq
    obtain ⟨u, hu, ru⟩ := rv.get hx
    obtain ⟨f0, f1, f2, f3, f4, f5⟩ := hf it (by simp)
    refine wpAny_pyNext_list_item st p.isList (x := u) (by simpa using hu) fun h' st' sb => ?_
    have I1 : Inv X pins σ H { s with heap := h' } := I.turned (t' := s.toks) (fun b o hb e => (sb.2 b hb).trans e) f0 f1 f3 f4 f5
    obtain ⟨o, e, c, d⟩ := id st'
    exact ⟨u, rfl, go_of (s := { s with heap := h' }) e c d (by decide) ⟨x, H, I1, ru, ⟨rfl, fun ys hy => by rw [I.list_inj hy hq]; exact hx⟩, st', fun b hb => (hf b hb).1⟩⟩
  done := by
    intro X hP hw hK hc i pins s σ H E I hf st hg
    subst hP hw hK
    obtain ⟨xs, hq, hx⟩ := hg
    obtain ⟨its, rv, p, hz⟩ := I.list hq
    obtain ⟨f0, f1, f2, f3, f4, f5⟩ := hf it (by simp)
    have hl := rv.length
    exact wpAny_pyNext_list_end (I.ok.hd hc) st p.isList (by simp; omega) fun h' eb => ⟨rfl, I.turned (t' := s.toks) (fun b o hb e => eb b o hb e) f0 f1 f3 f4 f5⟩
  self := fun _ _ _ _ _ st h => wpAny_pyIter_listiter st h
theorem turn_tuple {P : Program} {w : World} {K : PySem.W.Frag} {tg : Expr} (a it : Addr) : Turn P w K tg (Itt K a) [it] it (fun i h => h.IsTupleIter it a i) where
  mem := by simp
  obj := fun i h st b hb => by
    have e : b = it := by simpa using hb
    subst e
    obtain ⟨o, e, c, d⟩ := st
    exact ⟨o, e, fun v z => by rw [d] at z; cases z⟩
  keep := fun i h h' st k => st.at fun o e => k it (by simp) o e
  item := by
    intro X hP hw hK hc i pins s σ H E I hf st hg
    subst hP hw hK
    obtain ⟨xs, x, hq, hx⟩ := hg
    obtain ⟨its, rv, p, hz⟩ := I.tuple hq
    obtain ⟨u, hu, ru⟩ := rv.get hx
    obtain ⟨f0, f1, f2, f3, f4, f5⟩ := hf it (by simp)
    refine wpAny_pyNext_tuple_item st (show s.heap.IsTuple a its.toArray from p) (x := u) (by simpa using hu) fun h' st' sb => ?_
    have I1 : Inv X pins σ H { s with heap := h' } := I.turned (t' := s.toks) (fun b o hb e => (sb.2 b hb).trans e) f0 f1 f3 f4 f5
    obtain ⟨o, e, c, d⟩ := id st'
    exact ⟨u, rfl, go_of (s := { s with heap := h' }) e c d (by decide) ⟨x, H, I1, ru, ⟨rfl, fun ys hy => by rw [I.tuple_inj hy hq]; exact hx⟩, st', fun b hb => (hf b hb).1⟩⟩
  done := by
    intro X hP hw hK hc i pins s σ H E I hf st hg
    subst hP hw hK
    obtain ⟨xs, hq, hx⟩ := hg
    obtain ⟨its, rv, p, hz⟩ := I.tuple hq
    obtain ⟨f0, f1, f2, f3, f4, f5⟩ := hf it (by simp)
    have hl := rv.length
    exact wpAny_pyNext_tuple_end (I.ok.hd hc) st (show s.heap.IsTuple a its.toArray from p) (by simp; omega) fun h' eb => ⟨rfl, I.turned (t' := s.toks) (fun b o hb e => eb b o hb e) f0 f1 f3 f4 f5⟩
  self := fun _ _ _ _ _ st h => wpAny_pyIter_tupleiter st h
theorem turn_range {P : Program} {w : World} {K : PySem.W.Frag} {tg : Expr} (it : Addr) (lo : Int) (n : Nat) : Turn P w K tg (Itr lo n) [it] it (fun i h => IsRangeIter h it (lo + (i : Nat) * 1) ((n : Int) - (i : Nat)) 1) where
  mem := by simp
  obj := fun i h st b hb => by
    have e : b = it := by simpa using hb
    subst e
    exact ⟨_, st, fun v z => by
      have z' : Data.fields _ = Data.cell v := z
      cases z'⟩
  keep := fun i h h' st k => k it (by simp) _ st
  item := by
    intro X hP hw hK hc i pins s σ H E I hf st hg
    subst hP hw hK
    obtain ⟨f0, f1, f2, f3, f4, f5⟩ := hf it (by simp)
    have W := Walks.range (prog := X.prog) (w := X.w) (I.ok.hd hc) it lo 1 n
    refine W.item i s _ _ hg st fun v h' tk hv st' kk => ?_
    obtain ⟨t, rfl⟩ := hv
    have I1 : Inv X pins σ H { s with heap := h', toks := tk } := I.turned (fun b o hb e => kk b o (by simpa using hb) e) f0 f1 f3 f4 f5
    refine ⟨_, rfl, go_of (s := { s with heap := h', toks := tk }) (n := "range_iterator") st' rfl rfl (by decide) ⟨.int (lo + i), H, I1, ⟨t, ?_⟩, ⟨rfl, rfl⟩, st', fun b hb => (hf b hb).1⟩⟩
    rw [Int.mul_one]
  done := by
    intro X hP hw hK hc i pins s σ H E I hf st hg
    subst hP hw hK
    obtain ⟨f0, f1, f2, f3, f4, f5⟩ := hf it (by simp)
    exact wpAny_pyNext_range_end (I.ok.hd hc) st (by have : n ≤ i := hg; omega) fun h' eb => ⟨rfl, I.turned (t' := s.toks) (fun b o hb e => eb b o hb e) f0 f1 f3 f4 f5⟩
  self := fun _ _ _ _ _ st h => wpAny_pyIter_rangeiter st h
end L2

namespace L2
open PySem PySem.Spec PyProof.Rows
section
variable {X : Cx} {tg : Expr}
def iList (K : PySem.W.Frag) (tl : TE) : TI := fun σ H R => tl σ H fun x H1 => ∃ a, x = .ref a ∧ (∃ xs, SqL K H1 a xs) ∧ R (Itl K a) H1
def iTup (K : PySem.W.Frag) (tl : TE) : TI := fun σ H R => tl σ H fun x H1 => ∃ a, x = .ref a ∧ (∃ xs, SqT K H1 a xs) ∧ R (Itt K a) H1
theorem pi_list {l : Expr} {tl : TE} (hl : PE X l tl) : PI X tg l (iList X.K tl) := by
  intro pins s σ H R I h
  refine thn (hl pins s σ H _ I h) fun v s1 ⟨x, H1, I1, r1, q1⟩ => ?_
  obtain ⟨a, e, ⟨xs, hq⟩, q⟩ := q1
  subst e
  cases r1
  obtain ⟨its, rv, p, hz⟩ := I1.list hq
  refine wpAny_pyIter_list p.isList ?_
  refine ⟨s1.heap.objs.size, [s1.heap.objs.size], _, _, H1, rfl, I1.kept (t' := s1.toks) fun b o e => Heap.get?_push_of_some _ e, turn_list a _, ⟨_, Heap.get?_push_size _ rfl, rfl, rfl⟩, fun b hb => ?_, q⟩
  have e : b = s1.heap.objs.size := by simpa using hb
  subst e
  exact I1.fpOk (Nat.le_refl _) (I1.hok.fresh (Nat.le_refl _))
theorem pi_tup {l : Expr} {tl : TE} (hl : PE X l tl) : PI X tg l (iTup X.K tl) := by
  intro pins s σ H R I h
  refine thn (hl pins s σ H _ I h) fun v s1 ⟨x, H1, I1, r1, q1⟩ => ?_
  obtain ⟨a, e, ⟨xs, hq⟩, q⟩ := q1
  subst e
  cases r1
  obtain ⟨its, rv, p, hz⟩ := I1.tuple hq
  refine wpAny_pyIter_tuple (show s1.heap.IsTuple a its.toArray from p) ?_
  refine ⟨s1.heap.objs.size, [s1.heap.objs.size], _, _, H1, rfl, I1.kept (t' := s1.toks) fun b o e => Heap.get?_push_of_some _ e, turn_tuple a _, ⟨_, Heap.get?_push_size _ rfl, rfl, rfl⟩, fun b hb => ?_, q⟩
  have e : b = s1.heap.objs.size := by simpa using hb
  subst e
  exact I1.fpOk (Nat.le_refl _) (I1.hok.fresh (Nat.le_refl _))
/-- a range object just made, walked -/
theorem range_it {pins : List (Addr × Obj)} {σ : St} {H : Hp} {s : Shared} {R : It → Hp → Prop} {E : Value → Shared → Prop} {lo hi : Int} {t u v : Tok} {tk : Nat} (I : Inv X pins σ H s) (h1 : -(2 ^ 62) ≤ lo) (h2 : lo < 2 ^ 62) (h3 : -(2 ^ 62) ≤ hi) (h4 : hi < 2 ^ 62)
    (q : R (Itr lo (hi - lo).toNat) H) : wpAny (model X.prog X.w) X.A (pyIter (.ref s.heap.objs.size)) (PIE X pins σ tg R) E { s with heap := s.heap.push { cls := .type "range", data := .fields #[.int lo t, .int hi u, .int 1 v] }, toks := tk } := by
  refine wpAny_pyIter_range (IsRange.new ..) (small_one h1 h2 h3 h4) ?_
  have I1 : Inv X pins σ H { s with heap := s.heap.push { cls := .type "range", data := .fields #[.int lo t, .int hi u, .int 1 v] }, toks := tk } := I.kept fun b o e => Heap.get?_push_of_some _ e
  refine ⟨(s.heap.push { cls := .type "range", data := .fields #[.int lo t, .int hi u, .int 1 v] }).objs.size, [(s.heap.push { cls := .type "range", data := .fields #[.int lo t, .int hi u, .int 1 v] }).objs.size], _, _, H, rfl,
    I1.kept (t' := tk) fun b o e => Heap.get?_push_of_some _ e, turn_range _ lo (hi - lo).toNat, ?_, fun b hb => ?_, q⟩
  · have e1 : lo + ((0 : Nat) : Int) * 1 = lo := by simp
    have e2 : (((hi - lo).toNat : Nat) : Int) - ((0 : Nat) : Int) = Builtin.Range.rangeSize lo hi 1 := by rw [rangeSize_one]; split <;> omega
    show IsRangeIter _ _ (lo + ((0 : Nat) : Int) * 1) ((((hi - lo).toNat : Nat) : Int) - ((0 : Nat) : Int)) 1
    rw [e1, e2]
    exact Heap.get?_push_size _ rfl
  · have e : b = (s.heap.push { cls := .type "range", data := .fields #[.int lo t, .int hi u, .int 1 v] }).objs.size := by simpa using hb
    subst e
    exact I1.fpOk (Nat.le_refl _) (I1.hok.fresh (Nat.le_refl _))
def iRng1 (ta : TA) : TI := fun σ H R => ta σ H fun vs H1 => ∃ j : Int, vs = [.int j] ∧ -(2 ^ 62) ≤ j ∧ j < 2 ^ 62 ∧ R (Itr 0 j.toNat) H1
theorem pi_range1 {a : Expr} {ta : TA} {p pos : Pos} (hg : Gl X "range") (hm : X.mg "range" = none) (ha : PA X [a] ta) (hs : starEach [a] X.env = [(false, eval a X.env)] := by rfl) : PI X tg (.Call (.Name "range" p) [a] [] pos) (iRng1 ta) := by
  intro pins s σ H R I h
  refine Call_ (ld_blt I hg hm boot_range (PyProof.Rows.callWith_type1 (thn (ha pos pins s σ H _ I h) fun us s1 ⟨vs, H1, I1, r1, q1⟩ => ?_) hs rfl))
  obtain ⟨j, e, q1, q2, q⟩ := q1
  subst e
  cases r1 with
  | cons r rr =>
    cases rr
    obtain ⟨t, rfl⟩ := r
    exact call_range_1 (range_it I1 (by omega) (by omega) q1 q2 (by simpa using q))

/-! ### for -/
/-- W: the invariant by the turn and a measure; N: what the body is to reach -/
def tFor (wi : TI) (g : TG) (tb : TS) : TS := fun D σ H => wi σ H fun J H1 => ∃ W : Nat → Nat → St → Hp → Prop, (∃ m, W 0 m σ H1) ∧ ∀ i m σ H, W i m σ H →
  (J.stop i H ∧ D.nx σ H) ∨ (J.go i H ∧ ∃ N : St → Hp → Prop, (∀ σ' H', N σ' H' → ∃ m', m' < m ∧ W (i + 1) m' σ' H') ∧ ∀ x H', J.yld i H x H' → g x σ H' fun σ2 H2 => tb { D with nx := N, ct := N, bk := D.nx } σ2 H2)
/-- the records at fp as they stand -/
def pinsAt (fp : List Addr) (h : Heap) : List (Addr × Obj) := fp.filterMap fun b => (h.get? b).map fun o => (b, o)
theorem mem_pinsAt {fp : List Addr} {h : Heap} {b : Addr} {o : Obj} (hb : b ∈ fp) (e : h.get? b = some o) : (b, o) ∈ pinsAt fp h := List.mem_filterMap.mpr ⟨b, hb, by rw [e]; rfl⟩
theorem of_pinsAt {fp : List Addr} {h : Heap} {p : Addr × Obj} (hp : p ∈ pinsAt fp h) : p.1 ∈ fp ∧ h.get? p.1 = some p.2 := by
  obtain ⟨b, hb, e⟩ := List.mem_filterMap.mp hp
  cases q : h.get? b with
  | none => rw [q] at e; cases e
  | some o =>
    rw [q] at e
    have e' : (b, o) = p := Option.some.inj e
    subst e'
    exact ⟨hb, q⟩
theorem Inv.pinned {pins : List (Addr × Obj)} {σ : St} {H : Hp} {s : Shared} {fp : List Addr} (I : Inv X pins σ H s) (hf : ∀ b ∈ fp, FpOk X pins H b) (ho : ∀ b ∈ fp, ∃ o, s.heap.get? b = some o ∧ ∀ v, o.data ≠ .cell v) : Inv X (pins ++ pinsAt fp s.heap) σ H s :=
  I.pins_of fun p hp => (List.mem_append.mp hp).elim (fun z => I.pin p (List.mem_append_right _ z)) fun z => by
    obtain ⟨hb, e⟩ := of_pinsAt z
    obtain ⟨f0, f1, f2, _⟩ := hf p.1 hb
    obtain ⟨o, e', d⟩ := ho p.1 hb
    rw [e] at e'; cases e'
    exact ⟨e, f0, f1, f2, d⟩
theorem Inv.unpinned {pins pl : List (Addr × Obj)} {σ : St} {H : Hp} {s : Shared} (I : Inv X (pins ++ pl) σ H s) : Inv X pins σ H s := I.pins_of fun p hp => I.pin p (List.mem_append_right _ (List.mem_append_left _ hp))
theorem ps_for {iter : Expr} {body : List Stmt} {wi : TI} {g : TG} {tb : TS} {pos : Pos} (hp : PassesOwn (model X.prog X.w) X.A X.env X.xe) (hc : X.calm = true) (hi : PI X tg iter wi) (hg : PG X tg g) (hb : PSs X body tb)
    (hs : ∀ x, foldedSetIterable iter X.env x = pure x := by intro _; rfl) : PS X (.For tg iter body [] pos) (tFor wi g tb) := by
  intro pins s σ H D I h
  refine wpAny_For (thn (hi pins s σ H _ I h) fun v s1 h1 => thn h1 fun itv s2 h2 => ?_) hs
  obtain ⟨it, fp, tn, J, H2, e, I2, T, st2, f2, W, ⟨m0, w0⟩, turn⟩ := h2
  subst e
  -- what stays true of the iterator's objects through the loop
  have stat : ∀ {H' : Hp}, (∀ b ∈ fp, H' b = none) → ∀ b ∈ fp, FpOk X pins H' b := fun hn b hb => ⟨hn b hb, (f2 b hb).2⟩
  refine codeAny_forLoop_any (fun n s' => ∃ i σ' H', Inv X pins σ' H' s' ∧ tn i s'.heap ∧ (∀ b ∈ fp, H' b = none) ∧ W i n σ' H') ?_ m0 ⟨0, σ, H2, I2, st2, fun b hb => (f2 b hb).1, w0⟩
  rintro n s3 ⟨i, σ3, H3, I3, st3, fr3, w3⟩
  rcases turn i n σ3 H3 w3 with ⟨stop, qn⟩ | ⟨go, N, hN, step⟩
  · refine wpAny_passesOwn hp (thn (T.done X rfl rfl rfl hc i pins s3 σ3 H3 X.xe I3 (stat fr3) st3 stop) fun r s4 ⟨hr, I4⟩ => ?_)
    subst hr
    exact wpAny_execs_nil ⟨σ3, H3, I4, qn⟩
  · refine wpAny_passesOwn hp (thn (T.item X rfl rfl rfl hc i pins s3 σ3 H3 X.xe I3 (stat fr3) st3 go) fun r s4 ⟨u, hr, h4⟩ => ?_)
    subst hr
    refine wpAny_passesOwn hp (thn h4 fun _ s5 ⟨x, H5, I5, r5, y5, st5, fr5⟩ => ?_)
    have I5' := I5.pinned (stat fr5) (T.obj _ _ st5)
    refine wpAny_passesOwn hp (thn (hg _ s5 σ3 H5 x u _ I5' r5 (step x H5 y5)) fun _ s6 ⟨σ6, H6, I6, q6⟩ => ?_)
    refine wpAny_passesOwn hp (thn (hb _ s6 σ6 H6 _ I6 q6) fun f s7 q7 => ?_)
    have again : ∀ {σ7 : St} {H7 : Hp}, Inv X (pins ++ pinsAt fp s5.heap) σ7 H7 s7 → N σ7 H7 → ∃ m, m < n ∧ ∃ i σ' H', Inv X pins σ' H' s7 ∧ tn i s7.heap ∧ (∀ b ∈ fp, H' b = none) ∧ W i m σ' H' := fun {σ7 H7} I7 n7 => by
      obtain ⟨m', hm, w7⟩ := hN σ7 H7 n7
      refine ⟨m', hm, i + 1, σ7, H7, I7.unpinned, T.keep _ _ _ st5 fun b hb o e => (I7.pin (b, o) (List.mem_append_right _ (List.mem_append_right _ (mem_pinsAt hb e)))).1, fun b hb => ?_, w7⟩
      obtain ⟨o, e, d⟩ := T.obj _ _ st5 b hb
      exact (I7.pin (b, o) (List.mem_append_right _ (List.mem_append_right _ (mem_pinsAt hb e)))).2.1
    cases f with
    | next => obtain ⟨σ7, H7, I7, n7⟩ := q7; exact again I7 n7
    | cont => obtain ⟨σ7, H7, I7, n7⟩ := q7; exact again I7 n7
    | brk => obtain ⟨σ7, H7, I7, q7⟩ := q7; exact ⟨σ7, H7, I7.unpinned, q7⟩
    | ret v => obtain ⟨x7, σ7, H7, I7, r7, q7⟩ := q7; exact ⟨x7, σ7, H7, I7.unpinned, r7, q7⟩
end

/-! ### the forms one uses -/
theorem for_range {lo : Int} {n : Nat} {g : TG} {tb : TS} {D : Ends} {σ : St} {H : Hp} (Pv : Nat → St → Hp → Prop) (h0 : Pv 0 σ H)
    (hs : ∀ i σ H, i < n → Pv i σ H → g (.int (lo + i)) σ H fun σ2 H2 => tb { D with nx := Pv (i + 1), ct := Pv (i + 1), bk := D.nx } σ2 H2) (hd : ∀ σ H, Pv n σ H → D.nx σ H) :
    ∃ W : Nat → Nat → St → Hp → Prop, (∃ m, W 0 m σ H) ∧ ∀ i m σ H, W i m σ H →
      ((Itr lo n).stop i H ∧ D.nx σ H) ∨ ((Itr lo n).go i H ∧ ∃ N : St → Hp → Prop, (∀ σ' H', N σ' H' → ∃ m', m' < m ∧ W (i + 1) m' σ' H') ∧ ∀ x H', (Itr lo n).yld i H x H' → g x σ H' fun σ2 H2 => tb { D with nx := N, ct := N, bk := D.nx } σ2 H2) := by
  refine ⟨fun i m σ H => m = n - i ∧ i ≤ n ∧ Pv i σ H, ⟨n, by simp, Nat.zero_le _, h0⟩, ?_⟩
  rintro i m σ H ⟨rfl, hi, p⟩
  by_cases hlt : i < n
  · refine .inr ⟨hlt, Pv (i + 1), fun σ' H' p' => ⟨n - (i + 1), by omega, rfl, hlt, p'⟩, fun x H' y => ?_⟩
    obtain ⟨e, y⟩ := y
    subst e y
    exact hs i σ _ hlt p
  · have e : i = n := by omega
    subst e
    exact .inl ⟨Nat.le_refl _, hd σ H p⟩
end L2

namespace L2
open PySem PySem.Spec PyProof.Rows

abbrev R2 := V → V → Hp → VK → Prop
/-- a two-place operation on values: f is binaryOp op, inplaceOp op or compareOp op -/
def OpR (X : Cx) (f : Value → Value → Sem Value) (r : R2) : Prop :=
  ∀ (pins : List (Addr × Obj)) (s : Shared) (σ : St) (H : Hp) (x y : V) (v u : Value) (Q : VK), Inv X pins σ H s → RelV x v → RelV y u → r x y H Q →
    wpAny (model X.prog X.w) X.A (f v u) (EP X pins σ Q) X.xe s
/-- a one-place operation -/
def UnR (X : Cx) (f : Value → Sem Value) (r : V → Hp → VK → Prop) : Prop :=
  ∀ (pins : List (Addr × Obj)) (s : Shared) (σ : St) (H : Hp) (x : V) (v : Value) (Q : VK), Inv X pins σ H s → RelV x v → r x H Q →
    wpAny (model X.prog X.w) X.A (f v) (EP X pins σ Q) X.xe s
/-- a call of a value that is known (a builtin, a type) with values -/
def CallR (X : Cx) (f : Value) (r : List V → Hp → VK → Prop) : Prop :=
  ∀ (pins : List (Addr × Obj)) (s : Shared) (σ : St) (H : Hp) (xs : List V) (us : List Value) (Q : VK), Inv X pins σ H s → Vals xs us → r xs H Q →
    wpAny (model X.prog X.w) X.A (call f us) (EP X pins σ Q) X.xe s

def tOp (r : R2) (ta tb : TE) : TE := fun σ H Q => ta σ H fun x H1 => tb σ H1 fun y H2 => r x y H2 Q
def tUn (r : V → Hp → VK → Prop) (ta : TE) : TE := fun σ H Q => ta σ H fun x H1 => r x H1 Q
/-- ints in, under C, and a value out -/
def rI (C : Int → Int → Prop) (g : Int → Int → V) : R2 := fun x y H Q => ∃ i j, x = .int i ∧ y = .int j ∧ C i j ∧ Q (g i j) H
def rI0 (g : Int → Int → V) : R2 := fun x y H Q => ∃ i j, x = .int i ∧ y = .int j ∧ Q (g i j) H
def rU (g : Int → V) : V → Hp → VK → Prop := fun x H Q => ∃ i, x = .int i ∧ Q (g i) H

section
variable {X : Cx} {a b c : Expr} {ta tb tc : TE} {pos : Pos}

theorem binT (ha : PE X a ta) (hb : PE X b tb) {pins : List (Addr × Obj)} {s : Shared} {σ : St} {H : Hp} {R : V → V → Hp → Prop} (I : Inv X pins σ H s)
    (h : ta σ H fun x H1 => tb σ H1 fun y H2 => R x y H2) {Q : Value → Shared → Prop} {f : Value → Value → Sem Value}
    (hf : ∀ v u s2 x y H2, Inv X pins σ H2 s2 → RelV x v → RelV y u → R x y H2 → wpAny (model X.prog X.w) X.A (f v u) Q X.xe s2) :
    wpAny (model X.prog X.w) X.A (eval a X.env) (fun v s₁ => wpAny (model X.prog X.w) X.A (eval b X.env) (fun u s₂ => wpAny (model X.prog X.w) X.A (f v u) Q X.xe s₂) X.xe s₁) X.xe s := by
  refine thn (ha pins s σ H _ I h) fun v s1 ⟨x, H1, I1, r1, q1⟩ => ?_
  refine thn (hb pins s1 σ H1 _ I1 q1) fun u s2 ⟨y, H2, I2, r2, q2⟩ => ?_
  exact hf v u s2 x y H2 I2 r1 r2 q2

theorem pe_op {op : Operator} {r : R2} (ho : OpR X (binaryOp op) r) (ha : PE X a ta) (hb : PE X b tb) : PE X (.BinOp a op b pos) (tOp r ta tb) := by
  intro pins s σ H Q I h
  exact wpAny_BinOp (binT ha hb I h fun v u s2 x y H2 I2 rx ry q => ho pins s2 σ H2 x y v u Q I2 rx ry q)
theorem pe_un {op : UnaryOp} {r : V → Hp → VK → Prop} (ho : UnR X (unaryOp op) r) (ha : PE X a ta) : PE X (.UnaryOp op a pos) (tUn r ta) := by
  intro pins s σ H Q I h
  exact UnaryOp_ (thn (ha pins s σ H _ I h) fun v s1 ⟨x, H1, I1, r1, q1⟩ => ho pins s1 σ H1 x v Q I1 r1 q1)

/-! ### ints -/
theorem opI {f : Value → Value → Sem Value} {C : Int → Int → Prop} {g : Int → Int → Int}
    (rule : ∀ (i j : Int) (t u : Tok) (s : Shared) (Q : Value → Shared → Prop) (E : Value → Shared → Prop), C i j → Q (.int (g i j) s.toks) { s with toks := s.toks + 1 } → wpAny (model X.prog X.w) X.A (f (.int i t) (.int j u)) Q E s) :
    OpR X f (rI C fun i j => .int (g i j)) := by
  intro pins s σ H x y v u Q I rx ry h
  obtain ⟨i, j, rfl, rfl, hc, q⟩ := h
  obtain ⟨t, rfl⟩ := rx
  obtain ⟨t', rfl⟩ := ry
  exact rule i j t t' s _ _ hc ⟨.int (g i j), H, I.tok _, ⟨_, rfl⟩, q⟩
theorem opI0 {f : Value → Value → Sem Value} {g : Int → Int → Int}
    (rule : ∀ (i j : Int) (t u : Tok) (s : Shared) (Q : Value → Shared → Prop) (E : Value → Shared → Prop), Q (.int (g i j) s.toks) { s with toks := s.toks + 1 } → wpAny (model X.prog X.w) X.A (f (.int i t) (.int j u)) Q E s) :
    OpR X f (rI0 fun i j => .int (g i j)) := by
  intro pins s σ H x y v u Q I rx ry h
  obtain ⟨i, j, rfl, rfl, q⟩ := h
  obtain ⟨t, rfl⟩ := rx
  obtain ⟨t', rfl⟩ := ry
  exact rule i j t t' s _ _ ⟨.int (g i j), H, I.tok _, ⟨_, rfl⟩, q⟩
theorem opB0 {f : Value → Value → Sem Value} {g : Int → Int → Bool}
    (rule : ∀ (i j : Int) (t u : Tok) (s : Shared) (Q : Value → Shared → Prop) (E : Value → Shared → Prop), Q (.bool (g i j)) s → wpAny (model X.prog X.w) X.A (f (.int i t) (.int j u)) Q E s) :
    OpR X f (rI0 fun i j => .bl (g i j)) := by
  intro pins s σ H x y v u Q I rx ry h
  obtain ⟨i, j, rfl, rfl, q⟩ := h
  obtain ⟨t, rfl⟩ := rx
  obtain ⟨t', rfl⟩ := ry
  exact rule i j t t' s _ _ ⟨.bl (g i j), H, I, rfl, q⟩

def CPow (i j : Int) : Prop := 0 ≤ j ∧ j ≤ 1000000 ∧ i.natAbs < 2 ^ 64

theorem op_add : OpR X (binaryOp .Add) (rI0 fun i j => .int (i + j)) := opI0 fun _ _ _ _ _ _ _ q => add_int q
theorem op_sub : OpR X (binaryOp .Sub) (rI0 fun i j => .int (i - j)) := opI0 fun _ _ _ _ _ _ _ q => sub_int q
theorem op_modN : OpR X (binaryOp .Mod) (rI (fun _ j => j ≠ 0) fun i j => .int (i.fmod j)) := opI fun _ _ _ _ _ _ _ hc q => mod_int' hc q
theorem op_pow : OpR X (binaryOp .Pow) (rI CPow fun i j => .int (i ^ j.toNat)) := opI fun _ _ _ _ _ _ _ hc q => pow_int_small hc.1 hc.2.1 hc.2.2 q


theorem unI {f : Value → Sem Value} {g : Int → Int}
    (rule : ∀ (i : Int) (t : Tok) (s : Shared) (Q : Value → Shared → Prop) (E : Value → Shared → Prop), Q (.int (g i) s.toks) { s with toks := s.toks + 1 } → wpAny (model X.prog X.w) X.A (f (.int i t)) Q E s) :
    UnR X f (rU fun i => .int (g i)) := by
  intro pins s σ H x v Q I rx h
  obtain ⟨i, rfl, q⟩ := h
  obtain ⟨t, rfl⟩ := rx
  exact rule i t s _ _ ⟨.int (g i), H, I.tok _, ⟨_, rfl⟩, q⟩
theorem un_neg : UnR X (unaryOp .USub) (rU fun i => .int (-i)) := unI fun _ _ _ _ _ q => neg_int q

/-! ### bools among ints: n += (a < b) -/
end

/-! ### comparisons -/
/-- the scalars that == tells apart as data does -/
def scal : V → V → Bool
  | .non, .non => true | .non, .int _ => true | .int _, .non => true | .non, .bl _ => true | .bl _, .non => true | .non, .str _ => true | .str _, .non => true
  | .int _, .int _ => true | .bl _, .bl _ => true | .str _, .str _ => true | .byt _, .byt _ => true
  | .int _, .str _ => true | .str _, .int _ => true | .bl _, .str _ => true | .str _, .bl _ => true
  | _, _ => false
def rEq : R2 := fun x y H Q => scal x y = true ∧ Q (.bl (decide (x = y))) H
def rNe : R2 := fun x y H Q => scal x y = true ∧ Q (.bl (!decide (x = y))) H

theorem dec_int {i j : Int} : decide (V.int i = V.int j) = (i == j) := by
  rw [Bool.eq_iff_iff]
  simp
theorem dec_bl {i j : Bool} : decide (V.bl i = V.bl j) = (i == j) := by
  rw [Bool.eq_iff_iff]
  simp
theorem dec_str {i j : Str} : decide (V.str i = V.str j) = (i == j) := by
  rw [Bool.eq_iff_iff]
  simp
theorem dec_byt {i j : Array UInt8} : decide (V.byt i = V.byt j) = (i.toList == j.toList) := by
  rw [Bool.eq_iff_iff]
  cases i
  cases j
  simp

section
variable {X : Cx} {a b c : Expr} {ta tb tc : TE} {pos : Pos}
theorem fin_bl {pins : List (Addr × Obj)} {σ : St} {H : Hp} {s : Shared} {Q : VK} {k k' : Bool} (I : Inv X pins σ H s) (q : Q (.bl k) H) (e : k = k') : EP X pins σ Q (.bool k') s := by
  subst e
  exact ⟨.bl k, H, I, rfl, q⟩
theorem op_eq : OpR X (compareOp .Eq) rEq := by
  intro pins s σ H x y v u Q I rx ry h
  obtain ⟨hs, q⟩ := h
  cases x with
  | non =>
    cases rx
    cases y with
    | non => cases ry; exact PySem.EqNone.eq_none_none (fin_bl I q (by simp))
    | bl j => cases ry; exact PySem.EqNone.eq_none_bool (fin_bl I q (by simp))
    | int j => obtain ⟨t', rfl⟩ := ry; exact PySem.EqNone.eq_none_int (fin_bl I q (by simp))
    | str j => obtain ⟨t', rfl⟩ := ry; exact PySem.EqNone.eq_none_str (fin_bl I q (by simp))
    | _ => exact absurd (show false = true from hs) Bool.false_ne_true
  | bl i =>
    cases rx
    cases y with
    | non => cases ry; exact PySem.EqNone.eq_bool_none (fin_bl I q (by simp))
    | bl j => cases ry; exact eq_bool (fin_bl I q dec_bl)
    | str j => obtain ⟨t', rfl⟩ := ry; exact PySem.EqMixed.eq_bool_str (fin_bl I q (by simp))
    | _ => exact absurd (show false = true from hs) Bool.false_ne_true
  | int i =>
    obtain ⟨t, rfl⟩ := rx
    cases y with
    | non => cases ry; exact PySem.EqNone.eq_int_none (fin_bl I q (by simp))
    | int j => obtain ⟨t', rfl⟩ := ry; exact eq_int (fin_bl I q dec_int)
    | str j => obtain ⟨t', rfl⟩ := ry; exact PySem.EqMixed.eq_int_str (fin_bl I q (by simp))
    | _ => exact absurd (show false = true from hs) Bool.false_ne_true
  | str i =>
    obtain ⟨t, rfl⟩ := rx
    cases y with
    | non => cases ry; exact PySem.EqNone.eq_str_none (fin_bl I q (by simp))
    | bl j => cases ry; exact PySem.EqMixed.eq_str_bool (fin_bl I q (by simp))
    | int j => obtain ⟨t', rfl⟩ := ry; exact PySem.EqMixed.eq_str_int (fin_bl I q (by simp))
    | str j => obtain ⟨t', rfl⟩ := ry; exact eq_str (fin_bl I q dec_str)
    | _ => exact absurd (show false = true from hs) Bool.false_ne_true
  | byt i =>
    obtain ⟨t, rfl⟩ := rx
    cases y with
    | byt j => obtain ⟨t', rfl⟩ := ry; exact PySem.W.eq_bytes (fin_bl I q dec_byt)
    | _ => exact absurd (show false = true from hs) Bool.false_ne_true
  | _ => cases y <;> exact absurd (show false = true from hs) Bool.false_ne_true
theorem op_ne : OpR X (compareOp .NotEq) rNe := by
  intro pins s σ H x y v u Q I rx ry h
  obtain ⟨hs, q⟩ := h
  cases x with
  | non =>
    cases rx
    cases y with
    | non => cases ry; exact PySem.EqNone.ne_none_none (fin_bl I q (by simp))
    | bl j => cases ry; exact PySem.EqNone.ne_none_bool (fin_bl I q (by simp))
    | int j => obtain ⟨t', rfl⟩ := ry; exact PySem.EqNone.ne_none_int (fin_bl I q (by simp))
    | str j => obtain ⟨t', rfl⟩ := ry; exact PySem.EqNone.ne_none_str (fin_bl I q (by simp))
    | _ => exact absurd (show false = true from hs) Bool.false_ne_true
  | bl i =>
    cases rx
    cases y with
    | non => cases ry; exact PySem.EqNone.ne_bool_none (fin_bl I q (by simp))
    | bl j => cases ry; exact ne_bool (fin_bl I q (congrArg not dec_bl))
    | str j => obtain ⟨t', rfl⟩ := ry; exact PySem.EqMixed.ne_bool_str (fin_bl I q (by simp))
    | _ => exact absurd (show false = true from hs) Bool.false_ne_true
  | int i =>
    obtain ⟨t, rfl⟩ := rx
    cases y with
    | non => cases ry; exact PySem.EqNone.ne_int_none (fin_bl I q (by simp))
    | int j => obtain ⟨t', rfl⟩ := ry; exact ne_int (fin_bl I q (congrArg not dec_int))
    | str j => obtain ⟨t', rfl⟩ := ry; exact PySem.EqMixed.ne_int_str (fin_bl I q (by simp))
    | _ => exact absurd (show false = true from hs) Bool.false_ne_true
  | str i =>
    obtain ⟨t, rfl⟩ := rx
    cases y with
    | non => cases ry; exact PySem.EqNone.ne_str_none (fin_bl I q (by simp))
    | bl j => cases ry; exact PySem.EqMixed.ne_str_bool (fin_bl I q (by simp))
    | int j => obtain ⟨t', rfl⟩ := ry; exact PySem.EqMixed.ne_str_int (fin_bl I q (by simp))
    | str j => obtain ⟨t', rfl⟩ := ry; exact ne_str (fin_bl I q (congrArg not dec_str))
    | _ => exact absurd (show false = true from hs) Bool.false_ne_true
  | byt i =>
    obtain ⟨t, rfl⟩ := rx
    cases y with
    | byt j => obtain ⟨t', rfl⟩ := ry; exact PySem.W.ne_bytes (fin_bl I q (congrArg not dec_byt))
    | _ => exact absurd (show false = true from hs) Bool.false_ne_true
  | _ => cases y <;> exact absurd (show false = true from hs) Bool.false_ne_true

theorem op_lt : OpR X (compareOp .Lt) (rI0 fun i j => .bl (decide (i < j))) := opB0 fun _ _ _ _ _ _ _ q => lt_int q
theorem op_gt : OpR X (compareOp .Gt) (rI0 fun i j => .bl (decide (j < i))) := opB0 fun _ _ _ _ _ _ _ q => gt_int q
theorem op_ge : OpR X (compareOp .GtE) (rI0 fun i j => .bl (decide (j ≤ i))) := opB0 fun _ _ _ _ _ _ _ q => ge_int q




theorem nomark (b : Expr) {op : CmpOp} (h : op ≠ .In := by decide) (h2 : op ≠ .NotIn := by decide) : behindInMarks op b = false := by
  have e1 : (op == CmpOp.In) = false := by cases op <;> first | rfl | exact absurd rfl h
  have e2 : (op == CmpOp.NotIn) = false := by cases op <;> first | rfl | exact absurd rfl h2
  cases b <;> simp [behindInMarks, e1, e2]
/-- a comparison as a value; hm: nomark b, or (for in, not in) by with_unfolding_all rfl -/
theorem pe_cmpR {op : CmpOp} {r : R2} (ho : OpR X (compareOp op) r) (ha : PE X a ta) (hb : PE X b tb) (hm : behindInMarks op b = false) : PE X (.Compare a [op] [b] pos) (tOp r ta tb) := by
  intro pins s σ H Q I h
  exact wpAny_Compare1 (binT ha hb I h fun v u s2 x y H2 I2 rx ry q => ho pins s2 σ H2 x y v u Q I2 rx ry q) hm
/-- a reading of a value as a test -/
def tTest (t : TE) : TT := fun σ H Q => t σ H fun x H' => ∃ k, x = .bl k ∧ Q k H'
theorem pt_cmpR {op : CmpOp} {r : R2} (ho : OpR X (compareOp op) r) (ha : PE X a ta) (hb : PE X b tb) (hm : behindInMarks op b = false) : PT X (.Compare a [op] [b] pos) (tTest (tOp r ta tb)) := by
  intro pins s σ H Q I h
  refine wpAny_isTrue_Compare1 (thn (ha pins s σ H _ I h) fun v s1 ⟨x, H1, I1, r1, q1⟩ => thn (hb pins s1 σ H1 _ I1 q1) fun u s2 ⟨y, H2, I2, r2, q2⟩ =>
    thn (ho pins s2 σ H2 x y v u _ I2 r1 r2 q2) fun c s3 ⟨z, H3, I3, r3, k, e, q3⟩ => ?_) hm
  subst e
  cases r3
  exact wpAny_truthy_bool ⟨H3, I3, q3⟩

/-! ### truth -/
theorem line63 : (sizeLine : Nat) < 2 ^ 63 := by rw [sizeLine_eq]; decide

/-! ### strs and bytes -/


/-! ### scalar builtins, by CallR -/
theorem vals1 {x : V} {us : List Value} (r : Vals [x] us) : ∃ u, us = [u] ∧ RelV x u := by
  cases r with
  | cons r1 r2 => cases r2; exact ⟨_, rfl, r1⟩
theorem vals2 {x y : V} {us : List Value} (r : Vals [x, y] us) : ∃ u w', us = [u, w'] ∧ RelV x u ∧ RelV y w' := by
  cases r with
  | cons r1 r2 =>
    cases r2 with
    | cons r3 r4 => cases r4; exact ⟨_, _, rfl, r1, r3⟩
theorem call_abs : CallR X (.builtin "abs") (fun xs H Q => ∃ i, xs = [.int i] ∧ Q (.int (if i < 0 then -i else i)) H) := by
  intro pins s σ H xs us Q I r h
  obtain ⟨i, rfl, q⟩ := h
  obtain ⟨u, rfl, t, rfl⟩ := vals1 r
  exact call_abs_int fun u tk => ⟨.int (if i < 0 then -i else i), H, I.tok _, ⟨_, rfl⟩, q⟩
end
end L2

namespace L2
open PySem PySem.Spec PyProof.Rows

/-! ### an instance, its attributes a map -/
structure ObjM (h : Heap) (x dx C : Addr) (mA : Str → Option Value) : Prop where
  obj : h.get? x = some (PySem.W.instObj C dx)
  ns : h.Ns1 dx mA
  ne : dx ≠ x

theorem lookIn_ns {h : Heap} {dx : Addr} {mA : Str → Option Value} (n : h.Ns1 dx mA) : ∃ od, h.get? dx = some od ∧ ∀ name, PySem.W.lookIn name od = some (mA name) := by
  obtain ⟨o, es, ep, ho, hd, hk, _, hm⟩ := n
  refine ⟨o, ho, fun name => ?_⟩
  have e := hm name
  unfold nsFind findBy at e
  rw [← Array.find?_toList] at e
  unfold PySem.W.lookIn
  rw [hd]
  dsimp only
  split
  · rename_i y q
    rw [q] at e
    exact congrArg some e
  · rename_i q
    rw [q] at e
    have a : es.toList.any (·.refKey) = false := by
      rw [List.any_eq_false]
      intro y hy
      obtain ⟨z, t, hkey⟩ := hk y (Array.mem_toList_iff.mp hy)
      simp [DictEntry.refKey, hkey]
    have a' : ¬ es.toList.any (·.refKey) = true := by rw [a]; exact Bool.false_ne_true
    rw [if_neg a']
    exact congrArg some e

theorem ObjM.look {h : Heap} {x dx C : Addr} {mA : Str → Option Value} (I : ObjM h x dx C mA) : ∃ od, PySem.W.InstAt h x (PySem.W.instObj C dx) C (some od) ∧ ∀ name, PySem.W.lookIn name od = some (mA name) :=
  let ⟨od, ho, hl⟩ := lookIn_ns I.ns
  ⟨od, ⟨I.obj, rfl, rfl, ho⟩, hl⟩

section
variable {prog : Program} {w : World} {A : Around} {E : Value → Shared → Prop} {s : Shared} {K : PySem.W.Frag} {x dx C f : Addr} {mA : Str → Option Value} {name : Str} {v : Value}





end

/-! ### the attributes as a list of pairs -/
def putF (f : Str) (v : V) : List (Str × V) → List (Str × V)
  | [] => [(f, v)]
  | (g, x) :: r => if g = f then (g, v) :: r else (g, x) :: putF f v r
theorem lookup_putF (f g : Str) (v : V) : ∀ fs : List (Str × V), (putF f v fs).lookup g = if g = f then some v else fs.lookup g
  | [] => by
    show List.lookup g [(f, v)] = _
    by_cases h : g = f
    · have hb : (g == f) = true := beq_iff_eq.mpr h
      simp only [List.lookup, hb, if_pos h]
    · have hb : (g == f) = false := beq_eq_false_iff_ne.mpr h
      simp only [List.lookup, hb, if_neg h]
  | (k, x) :: r => by
    have ih := lookup_putF f g v r
    rw [show putF f v ((k, x) :: r) = (if k = f then (k, v) :: r else (k, x) :: putF f v r) from rfl]
    by_cases hk : k = f
    · rw [if_pos hk]
      by_cases h : g = k
      · have hb : (g == k) = true := beq_iff_eq.mpr h
        simp only [List.lookup, hb, if_pos (h.trans hk)]
      · have hb : (g == k) = false := beq_eq_false_iff_ne.mpr h
        simp only [List.lookup, hb, if_neg (fun e : g = f => h (e.trans hk.symm))]
    · rw [if_neg hk]
      by_cases h : g = k
      · have hb : (g == k) = true := beq_iff_eq.mpr h
        simp only [List.lookup, hb, if_neg (fun e : g = f => hk (h.symm.trans e))]
      · have hb : (g == k) = false := beq_eq_false_iff_ne.mpr h
        simp only [List.lookup, hb]
        exact ih

theorem RelO.some_of {v : V} {o : Option Value} (r : RelO (some v) o) : ∃ u, o = some u ∧ RelV v u := by
  cases o with
  | none => exact (show False from r).elim
  | some u => exact ⟨u, rfl, r⟩
theorem RelO.none_of {o : Option Value} (r : RelO none o) : o = none := by
  cases o with
  | none => rfl
  | some u => exact (show False from r).elim
theorem handed_of {v : V} {u : Value} (r : RelV v u) : PySem.W.handedIn u = true := by
  cases v with
  | non => cases (show u = Value.none from r); rfl
  | bl b => cases (show u = Value.bool b from r); rfl
  | int i => obtain ⟨t, e⟩ := (show ∃ t, u = Value.int i t from r); cases e; rfl
  | str x => obtain ⟨t, e⟩ := (show ∃ t, u = Value.str x t from r); cases e; rfl
  | byt b => obtain ⟨t, e⟩ := (show ∃ t, u = Value.bytes b t from r); cases e; rfl
  | flt b => obtain ⟨t, e⟩ := (show ∃ t, u = Value.float b t from r); cases e; rfl
  | ref a => cases (show u = Value.ref a from r); rfl
  | ty n => cases (show u = Value.type n from r); rfl

section
variable {P : Program} {w : World} {H H' : Hp} {h h' : Heap} {a C dx : Addr} {fs fs' : List (Str × V)}
theorem ins_get (hok : HOk P w H h) (e : H a = some (.ins C dx fs)) : ∃ mA, ObjM h a dx C mA ∧ (∀ f, RelO (fs.lookup f) (mA f)) ∧ PySem.Within mA (fs.map (·.1)) ∧ fs.length ≤ 1000 ∧ H dx = some (.own a) := by
  obtain ⟨d, z, ne, ob, mA, n, r, q⟩ := (show ObjOk P w H h a (.ins C dx fs) from hok a _ e)
  exact ⟨mA, ⟨ob, n, ne⟩, r, q, z, d⟩
end

/-! ### what of the text a class must have -/
structure Cls (K : PySem.W.Frag) (C : Addr) : Prop where
  pg : PySem.W.plainGet K C Str.empty = true
  hd : PySem.W.hasDictIn K C = true
  po : PySem.W.plainOver K C = true
  sa : PySem.W.findIn K (.ref C) "__setattr__" = some (some (.builtin "object.__setattr__"))
theorem Cls.get {K : PySem.W.Frag} {C : Addr} (c : Cls K C) (f : Str) : PySem.W.plainGet K C f = true := c.pg
/-- no class of it has the name -/
def NoAttr (K : PySem.W.Frag) (C : Addr) (f : Str) : Prop := PySem.W.findIn K (.ref C) f = some none

section
variable {X : Cx} {pins : List (Addr × Obj)} {σ : St} {H : Hp} {s : Shared} {a C dx : Addr} {fs : List (Str × V)} {f : Str} {v : V} {A : Around} {E : Value → Shared → Prop}






/-- e.f where nothing but the object is asked: through attributeBase (super) and the last hold -/
theorem attr_of {prog : Program} {w : World} {env : Env} {e : Expr} {f : Str} {pos : Pos} {s : Shared} {Q : Value → Shared → Prop} (hb : attributeBase e f env (eval e env) = eval e env)
    (h : wpAny (model prog w) A (eval e env) (fun o s₁ => wpAny (model prog w) A (getAttr o f true) Q E s₁) E s) : wpAny (model prog w) A (eval (.Attribute e f pos) env) Q E s :=
  Attribute_any_ h (by rw [arm_eval_Attribute, hb])
end

/-! ### readings and rules -/

section
variable {X : Cx} {o e value : Expr} {f : Str} {pos pos' tpos : Pos} {ta tv : TE}

end

/-! ### isinstance -/
section
variable {X : Cx} {pins : List (Addr × Obj)} {σ : St} {H : Hp} {s : Shared} {A : Around} {E : Value → Shared → Prop} {Q : Value → Shared → Prop} {c : Value} {b : Bool}
/-- the type of a value, as the fragment's deciders take it; for an instance its class -/
inductive TyOf (K : PySem.W.Frag) (H : Hp) : V → Value → Prop where
  | non : TyOf K H .non (.type "NoneType")
  | bl (x : Bool) : TyOf K H (.bl x) (.type "bool")
  | int (i : Int) : TyOf K H (.int i) (.type "int")
  | str (x : Str) : TyOf K H (.str x) (.type "str")
  | flt (x : UInt64) : TyOf K H (.flt x) (.type "float")
  | lst {a : Addr} {xs : List V} (e : H a = some (.lst xs)) : TyOf K H (.ref a) (.type "list")
  | frz {a : Addr} {o : Obj} {xs : List V} (e : H a = some (.frz o (.lst xs))) : TyOf K H (.ref a) (.type "list")
  | tup {a : Addr} {xs : List V} (e : H a = some (.tup xs)) : TyOf K H (.ref a) (.type "tuple")
  | dK {a : Addr} {kvs : List (Key × V)} (e : H a = some (.dK kvs)) : TyOf K H (.ref a) (.type "dict")
  | dT {a : Addr} {kvs : List (List Key × V)} (e : H a = some (.dT kvs)) : TyOf K H (.ref a) (.type "dict")
  | ins {a C dx : Addr} {fs : List (Str × V)} (e : H a = some (.ins C dx fs)) (cl : Cls K C) (ha : PySem.W.findIn K (.ref C) "__class__" = some (some (.builtin "object.__class__")))
      (hn : PySem.W.specialIn K (.builtin "object.__class__") "__get__" = some (some (.builtin "getset_descriptor.__get__"))) (htk : PySem.W.takesIn K (.builtin "object.__class__") = some true)
      (hm : PySem.W.mroIn K C (.type "object") = some true) : TyOf K H (.ref a) (.ref C)
/-- isinstance(x, c) for one class c, a built-in or an own one: kitOne's answer -/
theorem isinst_ok {x : V} {u t : Value} (I : Inv X pins σ H s) (rx : RelV x u) (ty : TyOf X.K H x t) (e : PySem.W.kitOne X.K t c = some b) (h : ∀ tk, Q (.bool b) { s with toks := tk }) :
    wpAny (model X.prog X.w) A (call (.builtin "isinstance") [u, c]) Q E s := by
  cases ty with
  | non => cases (show u = Value.none from rx); exact PySem.W.kia_one PySem.W.kitx_none I.kIn True.intro e (fun z => nomatch z) h
  | bl y => cases (show u = Value.bool y from rx); exact PySem.W.kia_one PySem.W.kitx_bool I.kIn True.intro e (fun z => nomatch z) h
  | int i => obtain ⟨t, q⟩ := (show ∃ t, u = Value.int i t from rx); cases q; exact PySem.W.kia_one PySem.W.kitx_int I.kIn True.intro e (fun z => nomatch z) h
  | str y => obtain ⟨t, q⟩ := (show ∃ t, u = Value.str y t from rx); cases q; exact PySem.W.kia_one PySem.W.kitx_str I.kIn True.intro e (fun z => nomatch z) h
  | flt y => obtain ⟨t, q⟩ := (show ∃ t, u = Value.float y t from rx); cases q; exact PySem.W.kia_one PySem.W.kitx_float I.kIn True.intro e (fun z => nomatch z) h
  | @lst a xs ea =>
    cases (show u = Value.ref a from rx)
    obtain ⟨_, _, n, _, h1⟩ := (show ObjOk X.prog X.w H s.heap a (.lst xs) from I.hok a _ ea)
    exact PySem.W.kia_one PySem.W.kitx_list I.kIn ⟨_, h1, rfl⟩ e (fun z => nomatch z) h
  | @frz a ob xs ea =>
    cases (show u = Value.ref a from rx)
    obtain ⟨_, _, _, n, _, h1⟩ := (show ObjOk X.prog X.w H s.heap a (.frz ob (.lst xs)) from I.hok a _ ea)
    exact PySem.W.kia_one PySem.W.kitx_list I.kIn ⟨_, h1, rfl⟩ e (fun z => nomatch z) h
  | @tup a xs ea =>
    cases (show u = Value.ref a from rx)
    obtain ⟨_, _, _, p⟩ := (show ObjOk X.prog X.w H s.heap a (.tup xs) from I.hok a _ ea)
    obtain ⟨o, h1, h2, _⟩ := p
    exact PySem.W.kia_one PySem.W.kitx_tuple I.kIn ⟨o, h1, h2⟩ e (fun z => nomatch z) h
  | @dK a kvs ea =>
    cases (show u = Value.ref a from rx)
    obtain ⟨_, _, vs, _, p⟩ := (show ObjOk X.prog X.w H s.heap a (.dK kvs) from I.hok a _ ea)
    obtain ⟨o, es, ep, h1, h2, _⟩ := p
    exact PySem.W.kia_one PySem.W.kitx_dict I.kIn ⟨o, h1, h2.1⟩ e (fun z => nomatch z) h
  | @dT a kvs ea =>
    cases (show u = Value.ref a from rx)
    obtain ⟨_, _, xs, _, o, es, ep, h1, h2, _⟩ := (show ObjOk X.prog X.w H s.heap a (.dT kvs) from I.hok a _ ea)
    exact PySem.W.kia_one PySem.W.kitx_dict I.kIn ⟨o, h1, h2.1⟩ e (fun z => nomatch z) h
  | @ins a C dx fs ea cl ha hn htk hm =>
    cases (show u = Value.ref a from rx)
    obtain ⟨mA, O, _⟩ := ins_get I.hok ea
    obtain ⟨od, J, _⟩ := O.look
    exact PySem.W.kia_one (PySem.W.kitx_own (cl.get _) cl.hd ha hn htk hm) I.kIn J e (fun z => nomatch z) h
end
end L2

namespace L2
open PySem PySem.Spec PyProof.Rows

/-! ### room -/
structure Room (k : Nat) (A : Around) : Prop where
  hd : A.handled = none
  dp : A.depth + 3 * k + 5 < recursionLimit
  un : A.units + 16 * k + 200 < cLine
theorem Room.mono {j k : Nat} {A : Around} (r : Room k A) (h : j ≤ k) : Room j A := ⟨r.hd, by have := r.dp; omega, by have := r.un; omega⟩
theorem Room.deeper {k : Nat} {A : Around} (r : Room (k + 1) A) (env : Env) : Room k (A.deeper env) :=
  ⟨r.hd, by have := r.dp; show A.depth + 1 + 3 * k + 5 < _; omega, by have := r.un; show A.units + 3 + 16 * k + 200 < _; omega⟩
theorem make_depth {A : Around} {C : Addr} {us : List Value} {kw : List (Str × Value)} : (A.under (.builtin "type.__call__" ⟨.ref C :: us, kw⟩)).depth = A.depth + 1 := by
  first | rfl | simp [Around.under, Code.weight, Code.isCreation, Code.isGuard, Code.isCaller, Code.frames, Code.isFrame, guardIds]
theorem make_units {A : Around} {C : Addr} {us : List Value} {kw : List (Str × Value)} : (A.under (.builtin "type.__call__" ⟨.ref C :: us, kw⟩)).units = A.units + 1 := by
  first | rfl | simp [Around.under, Code.cUnits, Code.frames, Code.isFrame]
theorem Room.make {k : Nat} {A : Around} (r : Room (k + 1) A) (C : Addr) (us : List Value) (kw : List (Str × Value)) : Room k (A.under (.builtin "type.__call__" ⟨.ref C :: us, kw⟩)) :=
  ⟨r.hd, by have := r.dp; rw [make_depth]; omega, by have := r.un; rw [make_units]; omega⟩
theorem Room.depth {k : Nat} {A : Around} (r : Room k A) : A.depth < recursionLimit := by have := r.dp; omega
theorem Room.units {k : Nat} {A : Around} (r : Room k A) : A.units + 64 < cLine := by have := r.un; omega

/-! ### argument lists and displays -/
def tNil : TA := fun _ H Q => Q [] H
def tCons (ta : TE) (tr : TA) : TA := fun σ H Q => ta σ H fun x H1 => tr σ H1 fun xs H2 => Q (x :: xs) H2
section
variable {X : Cx} {e : Expr} {es : List Expr} {te : TE} {t : TA} {pos : Pos}
theorem pa_nil : PA X [] tNil := fun _ _ _ _ H Q I h => Calls.spliced_nil ⟨[], H, I, .nil, h⟩
theorem pa_cons (ha : PE X e te) (hr : PA X es t) (hs : starEach (e :: es) X.env = (false, eval e X.env) :: starEach es X.env := by rfl) : PA X (e :: es) (tCons te t) := by
  intro pos pins s σ H Q I h
  rw [hs]
  show wpAny _ _ (spliced ((false, eval e X.env) :: backTo pos (starEach es X.env))) _ _ s
  refine Calls.spliced_cons (thn (ha pins s σ H _ I h) fun u s1 ⟨x, H1, I1, r1, q1⟩ => ?_)
  exact thn (hr pos pins s1 σ H1 _ I1 q1) fun us s2 ⟨xs, H2, I2, r2, q2⟩ => ⟨x :: xs, H2, I2, .cons r1 r2, q2⟩

/-- a tuple, a list of written items -/
def tTup (t : TA) : TE := fun σ H Q => t σ H fun xs H1 => xs.length ≤ sizeLine ∧ ∀ p, H1 p = none → Q (.ref p) (upd H1 p (.tup xs))
def tLst (t : TA) : TE := fun σ H Q => t σ H fun xs H1 => xs.length ≤ sizeLine ∧ ∀ p, H1 p = none → Q (.ref p) (upd H1 p (.lst xs))
theorem pe_tup {x1} (h : PA X es t) : PE X (.Tuple es x1 pos) (tTup t) := by
  intro pins s σ H Q I hq
  refine wpAny_Tuple_spliced (thn (h pos pins s σ H _ I hq) fun us s1 ⟨xs, H1, I1, r, z, q⟩ => ⟨by rw [← r.length]; exact z, ?_⟩)
  have hf : H1 s1.heap.objs.size = none := I1.hok.fresh (Nat.le_refl _)
  refine ⟨.ref s1.heap.objs.size, upd H1 s1.heap.objs.size (.tup xs), I1.laid (t' := s1.toks) (fun b u e => Heap.get?_push_of_some _ e) (Nat.le_refl _) ?_, rfl, q _ hf⟩
  exact ⟨z, us, r, ⟨_, Heap.get?_push_size _ rfl, rfl, _, rfl⟩⟩
theorem pe_lst (h : PA X es t) : PE X (.List es pos) (tLst t) := by
  intro pins s σ H Q I hq
  refine wpAny_List_spliced (thn (h pos pins s σ H _ I hq) fun us s1 ⟨xs, H1, I1, r, z, q⟩ => ⟨by rw [← r.length]; exact z, ?_⟩)
  have hf : H1 s1.heap.objs.size = none := I1.hok.fresh (Nat.le_refl _)
  refine ⟨.ref s1.heap.objs.size, upd H1 s1.heap.objs.size (.lst xs), I1.laid (t' := s1.toks) (fun b u e => Heap.get?_push_of_some _ e) (Nat.le_refl _) ?_, rfl, q _ hf⟩
  exact ⟨z, us, 0, r, Heap.get?_push_size _ rfl⟩
end

/-! ### what a def promises -/
/-- a def's promise: the bound arguments in the parameters' order, the heap, the wanted end, the wanted exception -/
abbrev Sp := List V → Hp → VK → XK → Prop
/-- how an exception lies behind a call (file 08 gives it): the callers' frames, abstract heap and state ahead of the call, the wish, the exception, the state -/
abbrev CXT := List Env → Hp → Shared → XK → Value → Shared → Prop

/-- the state at a call -/
structure Env0 (P : Program) (w : World) (K : PySem.W.Frag) (mg : Str → Option Value) (base : Heap) (A : Around) (outer : List Env) (s : Shared) (H : Hp) : Prop where
  frames : A.frames = some outer
  mod : Mod K mg base
  bs : ∀ b o, base.get? b = some o → s.heap.get? b = some o ∧ H b = none
  bsz : base.objs.size ≤ s.heap.objs.size
  funs : s.heap.FunFrames base outer
  frf : ∀ b ∈ frs outer, H b = none
  hok : HOk P w H s.heap
  bare : AllBare s.gens
/-- a call's end -/
def CE (outer : List Env) (P : Program) (w : World) (H : Hp) (s : Shared) (Q : VK) (u : Value) (s' : Shared) : Prop :=
  ∃ v H', s'.os = s.os ∧ AllBare s'.gens ∧ Un (frs outer) [] H H' s.heap s'.heap ∧ HOk P w H' s'.heap ∧ RelV v u ∧ Q v H'
def CR (CX : CXT) (outer : List Env) (P : Program) (w : World) (H : Hp) (s : Shared) (Q : VK) (E : XK) (r : Result) (s' : Shared) : Prop :=
  match r with
  | .ok (.ret u) => CE outer P w H s Q u s'
  | .ok _ => False
  | .error e => CX outer H s E e s'
structure FnOk (P : Program) (w : World) (K : PySem.W.Frag) (mg : Str → Option Value) (base : Heap) (CX : CXT) (k : Nat) (f : Addr) (fd : FuncData) (ps : List Str) (sp : Sp) : Prop where
  len : ∀ vs H Q E, sp vs H Q E → vs.length = ps.length
  run : ∀ (A : Around) (outer : List Env) (s : Shared) (H : Hp) (args : Args) (us : List Value) (vs : List V) (Q : VK) (E : XK), Room k A → Env0 P w K mg base A outer s H → BindsTo s fd args (ps.zip us) → Vals vs us → sp vs H Q E →
    codeAny (model P w) A (.call (.ref f) args) (CR CX outer P w H s Q E) s

theorem Env0.make {P : Program} {w : World} {K : PySem.W.Frag} {mg : Str → Option Value} {base : Heap} {A : Around} {outer : List Env} {s : Shared} {H : Hp} (e : Env0 P w K mg base A outer s H) (C : Addr) (us : List Value) (kw : List (Str × Value)) :
    Env0 P w K mg base (A.under (.builtin "type.__call__" ⟨.ref C :: us, kw⟩)) outer s H := ⟨by first | exact e.frames | (simpa [Around.under, Code.envs, Code.isFrame, pushEnvs] using e.frames), e.mod, e.bs, e.bsz, e.funs, e.frf, e.hok, e.bare⟩

section
variable {X : Cx} {pins : List (Addr × Obj)} {σ : St} {H : Hp} {s s' : Shared}
/-- from a body: what a callee wants -/
theorem Inv.env0 (I : Inv X pins σ H s) : Env0 X.prog X.w X.K X.mg X.base X.A X.stack s H :=
  ⟨I.ok.frames, I.ok.mod, I.bs, Nat.le_trans I.ok.bsz I.sz, I.stack, I.stkFree, I.hok, I.bare⟩
/-- behind a call -/
theorem Inv.after {Q : VK} {u : Value} (I : Inv X pins σ H s) (h : CE X.stack X.prog X.w H s Q u s') : EP X pins σ Q u s' := by
  obtain ⟨v, H', os, bare, un, hok, r, q⟩ := h
  obtain ⟨hh, g, d, t, os'⟩ := s'
  obtain rfl : os' = s.os := os
  exact ⟨v, H', I.call (h' := hh) (g' := g) (d' := d) (t' := t) (ch := []) un hok bare (fun b z => absurd z (by simp)), r, q⟩
end

/-! ### calls -/
/-- f(..): the written arguments, then the defaults dvs; E: what is wanted of an exception -/
def tCall (sp : Sp) (dvs : List V) (E : XK) (t : TA) : TE := fun σ H Q => t σ H fun vs H1 => sp (vs ++ dvs) H1 Q E

/-- how the parameters are bound: us the positional arguments, kw the keywords' values by name, ds the defaults that fill up -/
def Binds (K : PySem.W.Frag) (fd : FuncData) (ps : List Str) (ds : List Value) : Prop :=
  ∀ (s : Shared) (us : List Value), K.In s.heap → (us ++ ds).length = ps.length → BindsTo s fd ⟨us, []⟩ (ps.zip (us ++ ds))
/-- every parameter is given -/
theorem Binds.all {K : PySem.W.Frag} {fd : FuncData} {ps : List Str} (h : ∀ us : List Value, us.length = ps.length → bindArgs fd ⟨us, []⟩ = pure (ps.zip us)) : Binds K fd ps [] := fun s us _ hl => by
  rw [List.append_nil] at hl ⊢
  exact .of_eq (h us hl)

/-- an exception of a callee reaches what this body wants of exceptions -/
def Passes (CX : CXT) (X : Cx) (E : XK) : Prop := ∀ (pins : List (Addr × Obj)) (σ : St) (H : Hp) (s : Shared) (e : Value) (s' : Shared), Inv X pins σ H s → CX X.stack H s E e s' → X.xe e s'

section
variable {X : Cx} {CX : CXT} {k : Nat} {f C : Addr} {fd : FuncData} {ps : List Str} {sp : Sp} {dvs : List V} {ds : List Value} {E : XK} {x m : Str} {p pos apos : Pos} {e o : Expr} {es : List Expr} {ta : TE} {t : TA}

/-- the callee runs -/
theorem run_fn {pins : List (Addr × Obj)} {σ : St} {H : Hp} {s : Shared} {Q : VK} {us : List Value} {vs : List V} (F : FnOk X.prog X.w X.K X.mg X.base CX k f fd ps sp) (hr : Room k X.A) (hb : Binds X.K fd ps ds) (hd : Vals dvs ds) (hx : Passes CX X E)
    (I : Inv X pins σ H s) (r : Vals vs us) (h : sp (vs ++ dvs) H Q E) : wpAny (model X.prog X.w) X.A (call (.ref f) us) (EP X pins σ Q) X.xe s := by
  have r2 : Vals (vs ++ dvs) (us ++ ds) := r.append hd
  have hl : (us ++ ds).length = ps.length := by rw [← r2.length]; exact F.len _ _ _ _ h
  refine wpAny_call (codeAny_mono (F.run X.A X.stack s H ⟨us, []⟩ (us ++ ds) (vs ++ dvs) Q E hr I.env0 (hb s us I.kIn hl) r2 h) fun r s' hq => ?_)
  cases r with
  | error e => exact hx pins σ H s e s' I hq
  | ok fl =>
    cases fl with
    | ret u => exact I.after hq
    | next => exact False.elim hq
    | brk => exact False.elim hq
    | cont => exact False.elim hq

theorem pe_call (F : FnOk X.prog X.w X.K X.mg X.base CX k f fd ps sp) (hr : Room k X.A) (hg : Gl X x) (hm : X.mg x = some (.ref f)) (hk : PySem.W.keepIn X.K (.ref f) = true) (hb : Binds X.K fd ps ds) (hd : Vals dvs ds) (hx : Passes CX X E)
    (ha : PA X (e :: es) t) (hdb : (x == ("__debug__" : Str)) = false := by decide) (he : starEach (e :: es) X.env = (false, eval e X.env) :: starEach es X.env := by rfl) (hpl : (backTo pos (starEach es X.env)).any (·.1) = false := by rfl) :
    PE X (.Call (.Name x p) (e :: es) [] pos) (tCall sp dvs E t) := by
  intro pins s σ H Q I h
  refine wpAny_Call_Name_kw (ld_glob I hg hm ?_ hdb)
  refine PySem.W.callWith_K (h₀ := X.base) I.ok.mod.kin hk (thn (ha pos pins s σ H _ I h) fun us s1 ⟨vs, H1, I1, r, q⟩ => ⟨I1.kIn, ?_⟩) he hpl
  exact run_fn F hr hb hd hx I1 r q



end

/-! ### keywords -/
section
variable {X : Cx} {CX : CXT} {k : Nat} {f C : Addr} {fd : FuncData} {ps ks : List Str} {sp : Sp} {E : XK} {x m : Str} {p pos apos kpos : Pos} {e o : Expr} {es : List Expr} {kws : List Keyword} {te ta : TE} {t tk : TA} {nm : Option Str}

variable {g : List Value → List Value → List Value} {gV : List V → List V → List V}
end

/-! ### a def's body keeps its promise -/
/-- names: the parameters first -/
structure FnScope (N P : List Str) (sc : Scope) : Prop where
  kind : sc.kind = .function
  co : sc.isCoroutine = false
  gen : sc.isGenerator = false
  nd : N.Nodup
  pre : N.take P.length = P
  par : ∀ x ∈ P, sc.names.lookup x = some .local ∨ sc.names.lookup x = some .cell
  nofree : ∀ y ∈ sc.names, y.2 ≠ .free

theorem bindL_out {kindOf : Str → Option NameKind} {x : Str} : ∀ {binds : List (Str × Value)} {m : Str → Option Value}, (∀ v, (x, v) ∉ binds) → bindL kindOf binds m x = m x
  | [], _, _ => rfl
  | (n, v) :: r, m, h => by
    unfold bindL
    rw [bindL_out fun w hw => h w (List.mem_cons_of_mem _ hw)]
    split
    · have : x ≠ n := by rintro rfl; exact h v List.mem_cons_self
      simp [this]
    · rfl
theorem bindC_out {kindOf : Str → Option NameKind} {x : Str} : ∀ {binds : List (Str × Value)} {m : Str → Option Value}, (∀ v, (x, v) ∉ binds) → bindC kindOf binds m x = m x
  | [], _, _ => rfl
  | (n, v) :: r, m, h => by
    unfold bindC
    rw [bindC_out fun w hw => h w (List.mem_cons_of_mem _ hw)]
    split
    · rfl
    · have : x ≠ n := by rintro rfl; exact h v List.mem_cons_self
      simp [this]
theorem bindL_get {kindOf : Str → Option NameKind} {x : Str} {v : Value} : ∀ {P : List Str} {vs : List Value} {i : Nat} {m : Str → Option Value}, P.Nodup → P[i]? = some x → vs[i]? = some v → kindOf x = some .local →
    bindL kindOf (P.zip vs) m x = some v
  | [], _, _, _, _, h, _, _ => by simp at h
  | _ :: _, [], _, _, _, _, h, _ => by simp at h
  | p :: P, w :: vs, 0, m, nd, h1, h2, hk => by
    simp at h1 h2; subst h1; subst h2
    show bindL kindOf ((p, w) :: P.zip vs) m p = _
    unfold bindL
    rw [bindL_out fun v hv => (List.nodup_cons.mp nd).1 (List.of_mem_zip hv).1, if_pos hk]
    simp
  | p :: P, w :: vs, i + 1, m, nd, h1, h2, hk => by
    show bindL kindOf ((p, w) :: P.zip vs) m x = _
    unfold bindL
    exact bindL_get (i := i) (List.nodup_cons.mp nd).2 (by simpa using h1) (by simpa using h2) hk
theorem bindC_get {kindOf : Str → Option NameKind} {x : Str} {v : Value} : ∀ {P : List Str} {vs : List Value} {i : Nat} {m : Str → Option Value}, P.Nodup → P[i]? = some x → vs[i]? = some v → kindOf x ≠ some .local →
    bindC kindOf (P.zip vs) m x = some v
  | [], _, _, _, _, h, _, _ => by simp at h
  | _ :: _, [], _, _, _, _, h, _ => by simp at h
  | p :: P, w :: vs, 0, m, nd, h1, h2, hk => by
    simp at h1 h2; subst h1; subst h2
    show bindC kindOf ((p, w) :: P.zip vs) m p = _
    unfold bindC
    rw [bindC_out fun v hv => (List.nodup_cons.mp nd).1 (List.of_mem_zip hv).1, if_neg hk]
    simp
  | p :: P, w :: vs, i + 1, m, nd, h1, h2, hk => by
    show bindC kindOf ((p, w) :: P.zip vs) m x = _
    unfold bindC
    exact bindC_get (i := i) (List.nodup_cons.mp nd).2 (by simpa using h1) (by simpa using h2) hk

/-- the names' values at the entry -/
def start (N : List Str) (vs : List V) : St := vs.map some ++ List.replicate (N.length - vs.length) none

/-- the context of a def's body, at its entry; an exception leaves the frame, then lies as CX says -/
def cxOf (CX : CXT) (P : Program) (w : World) (K : PySem.W.Frag) (mg : Str → Option Value) (base : Heap) (N : List Str) (qual : Str) (scope : Scope) (f : Addr) (cd : Value) (A : Around) (outer : List Env) (s : Shared) (H : Hp) (E : XK) : Cx where
  prog := P
  w := w
  K := K
  mg := mg
  base := base
  A := A.deeper (envOfC qual scope s.heap.objs.size f cd)
  N := N
  s₀ := s
  H₀ := H
  env := envOfC qual scope s.heap.objs.size f cd
  outer := outer
  stack := envOfC qual scope s.heap.objs.size f cd :: outer
  ex := []
  calm := true
  fn := fun _ => true
  pn := []
  xe := fun e s' => wpAny (model P w) (A.deeper (envOfC qual scope s.heap.objs.size f cd)) (leaving (envOfC qual scope s.heap.objs.size f cd) e) (fun _ s'' => CX outer H s E e s'') (fun e' s'' => CX outer H s E e' s'') s'

theorem cell_has {sc : Scope} {n : Nat} {x : Str} (h : sc.names.lookup x = some .cell) : ∃ c, (cellsFrom n sc.names []).lookup x = some c := by
  have q := PySem.W.cellsFrom_some sc.names n [] (.inl h)
  exact Option.isSome_iff_exists.mp q

theorem inv_start {CX : CXT} {P : Program} {w : World} {K : PySem.W.Frag} {mg : Str → Option Value} {base : Heap} {N ps : List Str} {qual : Str} {scope : Scope} {f : Addr} {cd : Value} {A : Around} {outer : List Env} {s s1 : Shared} {H : Hp} {E : XK} {us : List Value} {vs : List V}
    (S : FnScope N ps scope) (hd : A.handled = none) (e0 : Env0 P w K mg base A outer s H) (hl : vs.length = ps.length) (r : Vals vs us)
    (x : InCallC s s.heap.objs.size (bindL (envOfC qual scope s.heap.objs.size f cd).kindOf (ps.zip us) fun _ => none) (cellsFrom (s.heap.objs.size + 1) scope.names []) (bindC (envOfC qual scope s.heap.objs.size f cd).kindOf (ps.zip us) fun _ => none) s1) :
    Inv (cxOf CX P w K mg base N qual scope f cd A outer s H E) [] (start N vs) H s1 := by
  have hpl : ps.length ≤ N.length := by have := congrArg List.length S.pre; rw [List.length_take] at this; omega
  obtain ⟨h1, tk, rfl, hk⟩ := x.done
  have noA : ∀ b : Addr, b ∉ (cxOf CX P w K mg base N qual scope f cd A outer s H E).ex := fun b z => absurd (show b ∈ ([] : List Addr) from z) (by simp)
  refine ⟨⟨e0.mod, S.kind, rfl, rfl, Nat.le_refl _, fun y z c h1 h2 => ?_, fun y hy => ?_, fun y c _ h => ?_, fun _ => hd, Around.frames_deeper e0.frames, .inr ⟨rfl, rfl⟩, fun b z => absurd z (noA b), e0.bs, e0.bsz, fun b _ _ => noA b, fun b z => absurd z (noA b), e0.funs, e0.frf⟩,
    rfl, e0.bare, Un.kept hk, ⟨_, x.toInCall.ns, fun i y v h1 h2 h3 => ?_⟩, fun y c h => ⟨_, x.cell y c h⟩, e0.hok.fresh (Nat.le_refl _), fun y c h => ?_, fun p hp => absurd (show p ∈ ([] : List (Addr × Obj)) from hp) (by simp), e0.hok.kept hk, ?_⟩
  · exact name_of_addr x.apart (PySem.mem_of_lookup h1) (PySem.mem_of_lookup h2)
  · have hy : scope.names.lookup y = some .cell ∨ scope.names.lookup y = some .free := hy
    rcases hy with hy | hy
    · exact cell_has hy
    · exact absurd rfl (S.nofree _ (PySem.mem_of_lookup hy))
  · exact Nat.le_of_lt (x.above y c (PySem.mem_of_lookup h))
  · have hi : i < vs.length := by
      unfold start at h2
      by_cases hi : i < vs.length
      · exact hi
      · rw [List.getElem?_append_right (by simpa using hi)] at h2
        rw [List.getElem?_replicate] at h2
        split at h2 <;> cases h2
    have ha : vs[i]? = some v := by
      unfold start at h2
      rw [List.getElem?_append_left (by simpa using hi), List.getElem?_map] at h2
      cases e : vs[i]? with
      | none => rw [e] at h2; cases h2
      | some a => rw [e] at h2; cases h2; rfl
    obtain ⟨u, hu, rv⟩ := r.get ha
    have hp : ps[i]? = some y := by
      rw [← S.pre, List.getElem?_take_of_lt (by omega)]; exact h1
    have ndP : ps.Nodup := by rw [← S.pre]; exact S.nd.sublist (List.take_sublist _ _)
    refine ⟨u, rv, ?_⟩
    rcases S.par y (List.mem_of_getElem? hp) with k | k
    · exact .inl ⟨k, bindL_get ndP hp hu k⟩
    · obtain ⟨c, e⟩ := cell_has (n := s.heap.objs.size + 1) k
      refine .inr ⟨.inl k, c, e, ?_⟩
      have q := x.cell y c e
      rw [bindC_get ndP hp hu (by show scope.names.lookup y ≠ _; rw [k]; decide)] at q
      exact q
  · exact e0.hok.fresh (Nat.le_of_lt (x.above y c (PySem.mem_of_lookup h)))
  · unfold start
    show _ = N.length
    rw [List.length_append, List.length_map, List.length_replicate]
    omega

/-- THE RULE: a def (or a method) of the text, by its body. The body's reading t is chosen for each entry; it is run at the parameters' values -/
theorem fn_of {CX : CXT} {P : Program} {w : World} {K : PySem.W.Frag} {mg : Str → Option Value} {base : Heap} {k : Nat} {f : Addr} {name qual : Str} {params : Arguments} {body : List Stmt} {scope : Scope} {dV kV doc pm cdv ct oc : Value} {an od : Option Addr}
    {osl : Array (Option Value)} {N ps : List Str} {sp : Sp} (lk : K.lookup f = some ⟨oc, od, .func (PySem.W.fnOf name qual params body scope dV kV doc pm an cdv ct), osl⟩) (hcd : PySem.W.codeIn K cdv qual = true) (S : FnScope N ps scope)
    (len : ∀ vs H Q E, sp vs H Q E → vs.length = ps.length)
    (hbody : ∀ (A : Around) (outer : List Env) (s : Shared) (H : Hp) (vs : List V) (Q : VK) (E : XK), Room k (A.deeper (envOfC qual scope s.heap.objs.size f cdv)) → sp vs H Q E →
      ∃ t, PSs (cxOf CX P w K mg base N qual scope f cdv A outer s H E) body t ∧ t { nx := fun _ H' => Q .non H', rt := Q } (start N vs) H) :
    FnOk P w K mg base CX (k + 1) f (PySem.W.fnOf name qual params body scope dV kV doc pm an cdv ct) ps sp := by
  refine ⟨len, fun A outer s H args us vs Q E hr e0 hb r hsp => ?_⟩
  have hl := len _ _ _ _ hsp
  have KX : K.In s.heap := e0.mod.kin.keeps fun b o e => (e0.bs b o e).1
  have lim : s.heap.NoLimit := e0.mod.nolimit.keeps fun b o e => (e0.bs b o e).1
  have hkind : ∀ y ∈ ps.zip us, scope.names.lookup y.1 = some .local ∨ (scope.names.lookup y.1 = some .cell ∧ ((cellsFrom (s.heap.objs.size + 1) scope.names []).lookup y.1).isSome = true) := fun ⟨n, v⟩ hy => by
    rcases S.par n (List.of_mem_zip hy).1 with q | q
    · exact .inl q
    · exact .inr ⟨q, PySem.W.cellsFrom_some _ _ _ (.inl q)⟩
  refine codeAny_call_function hr.depth (KX _ _ lk) rfl S.co S.gen rfl (PySem.W.codeRec_of KX hcd) (hb _ _ _ _ ?_)
  refine wpAny_newFunctionEnv_cells S.kind hkind fun env he s1 x => ?_
  subst he
  refine ⟨lim.keeps x.toInCall.keep, codeAny_func ?_⟩
  obtain ⟨t, ht, hq⟩ := hbody A outer s H vs Q E (hr.deeper _) hsp
  have I : Inv (cxOf CX P w K mg base N qual scope f cdv A outer s H E) [] (start N vs) H s1 := inv_start S hr.hd e0 hl r x
  refine wpAny_mono (ht [] s1 (start N vs) H _ I hq) (fun fl s' hs => ?_) fun e s' hs => hs
  have fin : ∀ {σ' : St} {H' : Hp} {v : V} {u : Value}, Inv (cxOf CX P w K mg base N qual scope f cdv A outer s H E) [] σ' H' s' → RelV v u → Q v H' → CE outer P w H s Q u s' :=
    fun {σ' H' v u} J rv q => ⟨v, H', J.os, J.bare, J.base, J.hok, rv, q⟩
  cases fl with
  | ret u =>
    obtain ⟨v, σ', H', J, rv, q⟩ := hs
    exact fin J rv q
  | next =>
    obtain ⟨σ', H', J, q⟩ := hs
    exact fin (v := V.non) (u := Value.none) J rfl q
  | brk =>
    obtain ⟨_, _, _, q⟩ := hs
    exact False.elim q
  | cont =>
    obtain ⟨_, _, _, q⟩ := hs
    exact False.elim q
end L2

namespace L2
open PySem PySem.Spec PyProof.Rows
section
variable {X : Cx} {x : Str} {p pos : Pos} {e : Expr} {es : List Expr} {t : TA} {id T : String} {r : List V → Hp → VK → Prop}

def tCB (r : List V → Hp → VK → Prop) (t : TA) : TE := fun σ H Q => t σ H fun vs H1 => r vs H1 Q
/-- f(e, ..), f a built-in function -/
theorem pe_callB (hc : CallR X (.builtin id) r) (hg : Gl X x) (hm : X.mg x = none) (hv : bootBuiltins x = some (.builtin id)) (ha : PA X (e :: es) t) (hn : x ≠ "__name__" := by decide) (hdb : (x == ("__debug__" : Str)) = false := by decide)
    (he : starEach (e :: es) X.env = (false, eval e X.env) :: starEach es X.env := by rfl) (hpl : (backTo pos (starEach es X.env)).any (·.1) = false := by rfl) : PE X (.Call (.Name x p) (e :: es) [] pos) (tCB r t) := by
  intro pins s σ H Q I h
  refine wpAny_Call_Name_kw (ld_blt I hg hm hv ?_ hn hdb)
  exact PyProof.Rows.callWith_builtin1 (thn (ha pos pins s σ H _ I h) fun us s1 ⟨vs, H1, I1, r1, q1⟩ => hc pins s1 σ H1 vs us Q I1 r1 q1) he hpl
/-- T(e, ..), T a built-in type -/
theorem pe_callTy (hc : CallR X (.type T) r) (hg : Gl X x) (hm : X.mg x = none) (hv : bootBuiltins x = some (.type T)) (ha : PA X (e :: es) t) (hn : x ≠ "__name__" := by decide) (hdb : (x == ("__debug__" : Str)) = false := by decide)
    (he : starEach (e :: es) X.env = (false, eval e X.env) :: starEach es X.env := by rfl) (hpl : (backTo pos (starEach es X.env)).any (·.1) = false := by rfl) : PE X (.Call (.Name x p) (e :: es) [] pos) (tCB r t) := by
  intro pins s σ H Q I h
  refine wpAny_Call_Name_kw (ld_blt I hg hm hv ?_ hn hdb)
  exact PyProof.Rows.callWith_type1 (thn (ha pos pins s σ H _ I h) fun us s1 ⟨vs, H1, I1, r1, q1⟩ => hc pins s1 σ H1 vs us Q I1 r1 q1) he hpl
end
end L2

namespace HT
open PySem PyProof.Rows



section
open PySem.SeqAt
open PySem.AutoSeq1 (wpAny_loadPart')
open PySem.MeetsSeq PySem.MeetsSeq2 PySem.MeetsSeq3

end

section
variable {prog : Program} {w : World} {A : Around} {E : Value → Shared → Prop} {s : Shared}



/-! ### t[a:b], not the whole -/
/-- a slice's bound as a place among n (d where it is left out) -/
def sIx (n d : Nat) : Option Int → Nat
  | none => d
  | some v => if v < 0 then (v + (n : Int)).toNat else min v.toNat n

end
end HT

namespace L2
open PySem PySem.Spec PyProof.Rows

/-! ### the parts of a slice -/
abbrev TO := St → Hp → (Option Int → Hp → Prop) → Prop
/-- a slice's part (left out, or an int) -/
def PO (X : Cx) (e : Option Expr) (t : TO) : Prop :=
  ∀ (pins : List (Addr × Obj)) (s : Shared) (σ : St) (H : Hp) (Q : Option Int → Hp → Prop), Inv X pins σ H s → t σ H Q →
    wpAny (model X.prog X.w) X.A (evalPart e X.env) (fun u s' => ∃ o H', Inv X pins σ H' s' ∧ IsPart u o ∧ Q o H') X.xe s
def tNoPart : TO := fun _ H Q => Q none H
def tPart (t : TE) : TO := fun σ H Q => t σ H fun x H1 => ∃ i, x = .int i ∧ Q (some i) H1


section
variable {X : Cx} {e : Expr} {te : TE} {lo hi : Option Expr} {tl th : TO} {pos p2 : Pos}

theorem po_none : PO X none tNoPart := by
  intro pins s σ H Q I h
  rw [evalPart_none]
  exact wpAny_pure ⟨none, H, I, .none, h⟩
theorem po_some (h : PE X e te) : PO X (some e) (tPart te) := by
  intro pins s σ H Q I hw
  rw [evalPart_some]
  refine thn (h pins s σ H _ I hw) fun u s1 ⟨x, H1, I1, r1, q1⟩ => ?_
  obtain ⟨i, rfl, q⟩ := q1
  obtain ⟨t, rfl⟩ := r1
  exact ⟨some i, H1, I1, .int i t, q⟩

/-- what a slice of a value is, by values: the slice object stands at sl -/
def SlR (X : Cx) (r : V → Option Int → Option Int → Hp → VK → Prop) : Prop :=
  ∀ (pins : List (Addr × Obj)) (s : Shared) (σ : St) (H : Hp) (x : V) (v vl vu : Value) (lo hi : Option Int) (sl : Addr) (Q : VK), Inv X pins σ H s → RelV x v → s.heap.IsSliceOf sl vl vu .none → IsPart vl lo → IsPart vu hi → r x lo hi H Q →
    ∃ T id, typeLookup (.type T) "__getitem__" = pure (some (.builtin id)) ∧ s.TypeIs v T ∧ wpAny (model X.prog X.w) X.A (getItem v (.ref sl)) (EP X pins σ Q) X.xe s
def tSl (r : V → Option Int → Option Int → Hp → VK → Prop) (te : TE) (tl th : TO) : TE := fun σ H Q => te σ H fun x H1 => tl σ H1 fun l H2 => th σ H2 fun u H3 => r x l u H3 Q
/-- a[lo:hi], any a -/
theorem pe_slice {r : V → Option Int → Option Int → Hp → VK → Prop} (hr : SlR X r) (he : PE X e te) (hl : PO X lo tl) (hu : PO X hi th) : PE X (.Subscript e (.Slice lo hi none p2) pos) (tSl r te tl th) := by
  intro pins s σ H Q I h
  refine Subscript_ (thn (he pins s σ H _ I h) fun v s1 ⟨x, H1, I1, r1, q1⟩ => ?_)
  refine wpAny_Slice (thn (hl pins s1 σ H1 _ I1 q1) fun vl s2 ⟨l, H2, I2, pl, q2⟩ => thn (hu pins s2 σ H2 _ I2 q2) fun vu s3 ⟨u, H3, I3, pu, q3⟩ => ?_)
  rw [evalPart_none]
  refine wpAny_pure ?_
  have I4 : Inv X pins σ H3 { s3 with heap := s3.heap.push { cls := .type "slice", data := .fields #[vl, vu, .none] } } := I3.kept (t' := s3.toks) fun b ob q => Heap.get?_push_of_some _ q
  obtain ⟨T, id, hT, ht, hg⟩ := hr pins { s3 with heap := s3.heap.push { cls := .type "slice", data := .fields #[vl, vu, .none] } } σ H3 x v vl vu l u s3.heap.objs.size Q I4 r1 (Heap.IsSliceOf.new ..) pl pu q3
  show wpAny (model X.prog X.w) X.A (subscriptTail e (.Slice lo hi none p2) v (.ref s3.heap.objs.size)) (EP X pins σ Q) X.xe { s3 with heap := s3.heap.push { cls := .type "slice", data := .fields #[vl, vu, .none] } }
  exact tail_any (ops := [.ref s3.heap.objs.size, v]) ht hT hg (by with_unfolding_all rfl)

/-- the items of xs[lo:hi] -/
def cutV (xs : List V) (lo hi : Option Int) : List V := (xs.drop (HT.sIx xs.length 0 lo)).take (HT.sIx xs.length xs.length hi - HT.sIx xs.length 0 lo)
theorem cutV_length (xs : List V) (lo hi : Option Int) : (cutV xs lo hi).length ≤ xs.length := by
  unfold cutV
  rw [List.length_take, List.length_drop]
  omega

/-! ### t < u, t + u -/
end
end L2

namespace L2
open PySem PySem.Spec PyProof.Rows

/-! ### places -/
/-- the place that an index of any sign means -/
def ixN (n : Nat) (i : Int) : Option Nat := if 0 ≤ i then (if i < n then some i.toNat else none) else if -(n : Int) ≤ i then some (i + n).toNat else none
def atI {α : Type} (xs : List α) (i : Int) : Option α := (ixN xs.length i).bind fun j => xs[j]?
theorem ixN_seq {n : Nat} {i : Int} {j : Nat} (h : ixN n i = some j) : seqIndex? i n = some j ∧ j < n ∧ -(n : Int) ≤ i ∧ i < n := by
  unfold ixN at h
  by_cases h0 : 0 ≤ i
  · rw [if_pos h0] at h
    by_cases h1 : i < n
    · rw [if_pos h1] at h
      have e : i.toNat = j := Option.some.inj h
      exact ⟨by rw [seqIndex_of h0 h1, e], by omega, by omega, h1⟩
    · rw [if_neg h1] at h; cases h
  · rw [if_neg h0] at h
    by_cases h1 : -(n : Int) ≤ i
    · rw [if_pos h1] at h
      have e : (i + n).toNat = j := Option.some.inj h
      exact ⟨by rw [seqIndex_neg (by omega) h1, e], by omega, h1, by omega⟩
    · rw [if_neg h1] at h; cases h
theorem atI_get {α : Type} {xs : List α} {i : Int} {v : α} (h : atI xs i = some v) : ∃ j, seqIndex? i xs.length = some j ∧ xs[j]? = some v ∧ j < xs.length ∧ -(xs.length : Int) ≤ i ∧ i < xs.length := by
  unfold atI at h
  cases e : ixN xs.length i with
  | none => rw [e] at h; cases h
  | some j =>
    rw [e] at h
    obtain ⟨h1, h2, h3, h4⟩ := ixN_seq e
    exact ⟨j, h1, h, h2, h3, h4⟩
theorem atI_nat {α : Type} {xs : List α} {j : Nat} {v : α} (h : xs[j]? = some v) : atI xs (j : Int) = some v := by
  have hj : j < xs.length := (List.getElem?_eq_some_iff.mp h).1
  have e : ixN xs.length (j : Int) = some j := by
    unfold ixN
    rw [if_pos (by omega), if_pos (by omega)]; simp
  unfold atI; rw [e]; exact h

/-! ### what may be subscripted -/
/-- what stands as an index of a plain subscript -/
def PlainIx (b : Expr) : Prop := ∀ o i, subscripted b false o i = operate [o, i] (getItem o i)
/-- a subscript by values -/
def IxR (X : Cx) (r : R2) : Prop :=
  ∀ (value slice : Expr) (pins : List (Addr × Obj)) (s : Shared) (σ : St) (H : Hp) (x y : V) (v u : Value) (Q : VK), Inv X pins σ H s → RelV x v → RelV y u → r x y H Q →
    subscripted slice false v u = operate [v, u] (getItem v u) → wpAny (model X.prog X.w) X.A (subscriptTail value slice v u) (EP X pins σ Q) X.xe s
section
variable {X : Cx} {a b : Expr} {ta tb : TE} {pos : Pos}
/-- a[b] -/
theorem pe_ix {r : R2} (hr : IxR X r) (ha : PE X a ta) (hb : PE X b tb) (hs : PlainIx b) : PE X (.Subscript a b pos) (tOp r ta tb) := by
  intro pins s σ H Q I h
  exact Subscript_ (binT ha hb I h fun v u s2 x y H2 I2 rx ry q => hr a b pins s2 σ H2 x y v u Q I2 rx ry q (hs _ _))

def rIxL (K : PySem.W.Frag) : R2 := fun x y H Q => ∃ p xs i v, x = .ref p ∧ y = .int i ∧ SqL K H p xs ∧ atI xs i = some v ∧ Q v H
def rIxT (K : PySem.W.Frag) : R2 := fun x y H Q => ∃ p xs i v, x = .ref p ∧ y = .int i ∧ SqT K H p xs ∧ atI xs i = some v ∧ Q v H
theorem ix_list : IxR X (rIxL X.K) := by
  intro value slice pins s σ H x y v u Q I rx ry h hs
  obtain ⟨p, xs, i, z, rfl, rfl, hq, he, q⟩ := h
  cases rx
  obtain ⟨t, rfl⟩ := ry
  obtain ⟨its, r, pl, hz⟩ := I.list hq
  obtain ⟨j, h1, h2, h3, h4, h5⟩ := atI_get he
  obtain ⟨w, ew, rw'⟩ := r.get h2
  have hl := r.length
  have hn := line63
  have fin : EP X pins σ Q w s := ⟨z, H, I, rw', q⟩
  by_cases h0 : 0 ≤ i
  · have hj : i.toNat = j := by
      rw [seqIndex_of h0 h5] at h1
      exact Option.some.inj h1
    exact item_listR pl.isList h0 (by omega) (by rw [hj]; simpa using ew) fin hs
  · have hj : (i + (its.toArray.size : Int)).toNat = j := by
      rw [seqIndex_neg (by omega) h4] at h1
      rw [List.size_toArray, ← hl]
      exact Option.some.inj h1
    exact subscriptTail_builtinR (x := w) pl.isList.typeIs slot_list_getitem.lookup
      (wpAny_getItem_list_neg (Q := fun r s' => r = w ∧ EP X pins σ Q r s') pl.isList (by omega) (by rw [List.size_toArray] <;> omega) (by omega) (by rw [hj]; simpa using ew) ⟨rfl, fin⟩) hs
theorem ix_tup : IxR X (rIxT X.K) := by
  intro value slice pins s σ H x y v u Q I rx ry h hs
  obtain ⟨p, xs, i, z, rfl, rfl, hq, he, q⟩ := h
  cases rx
  obtain ⟨t, rfl⟩ := ry
  obtain ⟨its, r, pl, hz⟩ := I.tuple hq
  obtain ⟨j, h1, h2, h3, h4, h5⟩ := atI_get he
  obtain ⟨w, ew, rw'⟩ := r.get h2
  have hl := r.length
  have hn := line63
  have fin : EP X pins σ Q w s := ⟨z, H, I, rw', q⟩
  exact subscriptTail_builtinR (x := w) pl.typeIs slot_tuple_getitem.lookup
    (getItem_tuple (j := j) (Q := fun r s' => r = w ∧ EP X pins σ Q r s') pl (by omega) (by omega) (by rw [List.size_toArray, ← hl]; exact h1) (by simpa using ew) ⟨rfl, fin⟩) hs

/-! ### xs[i] = v, any sign -/
/-- the list's object behind a store -/
theorem mapSeq_set (its : List Value) (n j : Nat) (u : Value) : Obj.mapSeq (·.setIfInBounds j u) { cls := .type "list", data := .seq its.toArray n } = { cls := .type "list", data := .seq (its.set j u).toArray n } := by
  simp [Obj.mapSeq]
theorem Inv.lst {pins : List (Addr × Obj)} {σ : St} {H : Hp} {s : Shared} {p : Addr} {xs : List V} (I : Inv X pins σ H s) (h : H p = some (.lst xs)) :
    ∃ (its : List Value) (n : Nat), Vals xs its ∧ s.heap.get? p = some { cls := .type "list", data := .seq its.toArray n } ∧ xs.length ≤ sizeLine := by
  obtain ⟨z, its, n, r, e⟩ := I.hok p _ h
  exact ⟨its, n, r, e, z⟩
/-- the list at p is written by an update of its object -/
theorem Inv.lstUpd {pins : List (Addr × Obj)} {σ : St} {H : Hp} {s : Shared} {p : Addr} {xs ys : List V} {its its' : List Value} {n n' : Nat} {f : Obj → Obj} (I : Inv X pins σ H s) (h : H p = some (.lst xs))
    (ho : s.heap.get? p = some { cls := .type "list", data := .seq its.toArray n }) (hf : f { cls := .type "list", data := .seq its.toArray n } = { cls := .type "list", data := .seq its'.toArray n' }) (r : Vals ys its') (hz : ys.length ≤ sizeLine) (t : Nat) :
    Inv X pins σ (upd H p (.lst ys)) { s with heap := s.heap.update p f, toks := t } := by
  have e : (s.heap.update p f).get? p = some { cls := .type "list", data := .seq its'.toArray n' } := by
    rw [Heap.get?_update_self f ho (by rw [hf] <;> rfl), hf]
  refine I.write (x := p) (e := p) (by rw [h]; trivial) (.inl rfl) (fun b u hb q => (Heap.get?_update_other _ _ (Ne.symm hb)).trans q) ⟨_, e⟩ ?_
  exact ⟨hz, its', n', r, e⟩
def rSetL : V → V → V → Hp → (Hp → Prop) → Prop := fun o i v H Q => ∃ p xs k j, o = .ref p ∧ i = .int k ∧ H p = some (.lst xs) ∧ ixN xs.length k = some j ∧ Q (upd H p (.lst (xs.set j v)))
theorem set_list : PSet X rSetL := by
  intro pins s σ H o i v ov iv u Q I ro ri rv h
  obtain ⟨p, xs, k, j, rfl, rfl, hp, hj, q⟩ := h
  cases ro
  obtain ⟨t, rfl⟩ := ri
  obtain ⟨its, n, r, ho, hz⟩ := I.lst hp
  obtain ⟨h1, h2, h3, h4⟩ := ixN_seq hj
  have hl := r.length
  have hn := line63
  have I' : Inv X pins σ (upd H p (.lst (xs.set j v))) { s with heap := s.heap.update p (Obj.mapSeq (·.setIfInBounds j u)) } :=
    I.lstUpd hp ho (mapSeq_set its n j u) (r.set rv j) (by rw [List.length_set]; exact hz) s.toks
  by_cases h0 : 0 ≤ k
  · have hk : k.toNat = j := by
      rw [seqIndex_of h0 h4] at h1
      exact Option.some.inj h1
    exact PySem.W.ki_setAt ho h0 (by omega) (by rw [List.size_toArray, ← hl]; exact h4) (by rw [hk]; exact ⟨_, I', q⟩)
  · have hk : (k + (its.toArray.size : Int)).toNat = j := by
      rw [seqIndex_neg (by omega) h3] at h1
      rw [List.size_toArray, ← hl]
      exact Option.some.inj h1
    exact PySem.W.ki_setBack ho (by omega) (by rw [List.size_toArray, ← hl]; exact h3) (by omega) (by rw [hk]; exact ⟨_, I', q⟩)

/-! ### slices -/
theorem slice_bounds (lo hi : Option Int) (n : Nat) : (sliceBounds lo hi none n).1 = ((HT.sIx n 0 lo : Nat) : Int) ∧ (sliceBounds lo hi none n).2.1 = ((HT.sIx n n hi : Nat) : Int) ∧ (sliceBounds lo hi none n).2.2 = 1 := by
  refine ⟨?_, ?_, rfl⟩
  · cases lo with
    | none => simp [sliceBounds, HT.sIx]
    | some i =>
      simp only [sliceBounds, HT.sIx, Option.getD_none, show (1 : Int) > 0 by decide, if_true]
      by_cases h : i < 0
      · simp only [h, if_true] <;> omega
      · simp only [h, if_false] <;> omega
  · cases hi with
    | none => simp [sliceBounds, HT.sIx]
    | some i =>
      simp only [sliceBounds, HT.sIx, Option.getD_none, show (1 : Int) > 0 by decide, if_true]
      by_cases h : i < 0
      · simp only [h, if_true] <;> omega
      · simp only [h, if_false] <;> omega
theorem slicePick_cut (its : List Value) (lo hi : Option Int) : slicePick its.toArray lo hi none = ((its.drop (HT.sIx its.length 0 lo)).take (HT.sIx its.length its.length hi - HT.sIx its.length 0 lo)).toArray := by
  obtain ⟨h1, h2, h3⟩ := slice_bounds lo hi its.toArray.size
  unfold slicePick
  rw [h1, h2, h3]
  simp only [sliceRange_one, pick_run, List.size_toArray] <;> rfl
/-- xs[lo:hi] of a list: a new list -/
def rSlL (K : PySem.W.Frag) : V → Option Int → Option Int → Hp → VK → Prop := fun x lo hi H Q => ∃ a xs, x = .ref a ∧ SqL K H a xs ∧ ∀ p, H p = none → Q (.ref p) (upd H p (.lst (cutV xs lo hi)))
theorem sl_list : SlR X (rSlL X.K) := by
  intro pins s σ H x v vl vu lo hi sl Q I rx hs pl pu h
  obtain ⟨a, xs, rfl, hx, q⟩ := h
  cases rx
  obtain ⟨its, r, ht, hz⟩ := I.list hx
  have hlen := r.length
  refine ⟨"list", _, slot_list_getitem.lookup, ht.isList.typeIs, ?_⟩
  refine wpAny_getItem_list_slice ht.isList hs pl pu .none (by simp) ?_ (by rw [List.size_toArray] <;> omega)
  rw [slicePick_cut, ← hlen]
  refine ⟨.ref s.heap.objs.size, _, I.laid (t' := s.toks) (o := .lst (cutV xs lo hi)) (fun b ob q => Heap.get?_push_of_some _ q) (Nat.le_refl _) ?_, rfl, q _ (I.hok.fresh (Nat.le_refl _))⟩
  exact ⟨Nat.le_trans (cutV_length xs lo hi) hz, _, 0, (r.drop (HT.sIx xs.length 0 lo)).take (HT.sIx xs.length xs.length hi - HT.sIx xs.length 0 lo), Heap.get?_push_size _ rfl⟩

/-! ### in, not in: flat items -/

/-! ### len, list(x), tuple(x) of any list or tuple that is read -/
theorem call_len_seq : CallR X (.builtin "len") (fun xs H Q => ∃ p ys, xs = [.ref p] ∧ (SqL X.K H p ys ∨ SqT X.K H p ys) ∧ Q (.int ys.length) H) := by
  intro pins s σ H xs us Q I r h
  obtain ⟨p, ys, rfl, hq, q⟩ := h
  obtain ⟨u, rfl, rx⟩ := vals1 r
  cases rx
  have hn := line63
  rcases hq with hq | hq
  · obtain ⟨its, r', pl, hz⟩ := I.list hq
    have hlen := r'.length
    exact Calls.call_len_list pl.isList (by simp only [List.size_toArray] <;> omega) ⟨.int ys.length, H, I.tok _, ⟨s.toks + 1, by rw [List.size_toArray, hlen]⟩, q⟩
  · obtain ⟨its, r', pl, hz⟩ := I.tuple hq
    have hlen := r'.length
    exact len_tuple pl (by simp only [List.size_toArray] <;> omega) ⟨.int ys.length, H, I.tok _, ⟨s.toks + 1, by rw [List.size_toArray, hlen]⟩, q⟩
theorem call_list_of : CallR X (.type "list") (fun xs H Q => ∃ p ys, xs = [.ref p] ∧ (SqL X.K H p ys ∨ SqT X.K H p ys) ∧ ∀ l, H l = none → Q (.ref l) (upd H l (.lst ys))) := by
  intro pins s σ H xs us Q I r h
  obtain ⟨p, ys, rfl, hq, q⟩ := h
  obtain ⟨u, rfl, rx⟩ := vals1 r
  cases rx
  have fin : ∀ (its : List Value), Vals ys its → ys.length ≤ sizeLine → ∀ (h' : Heap) (c' : Nat), (∀ b o', s.heap.get? b = some o' → h'.get? b = some o') →
      h'.get? s.heap.objs.size = some { cls := .type "list", dict := none, data := .seq its.toArray c', slots := #[] } → EP X pins σ Q (.ref s.heap.objs.size) { s with heap := h' } := fun its r' hz h' c' kp e =>
    ⟨.ref s.heap.objs.size, _, I.laid (t' := s.toks) kp (Nat.le_refl _) (show ObjOk X.prog X.w _ h' _ (.lst ys) from ⟨hz, its, c', r', e⟩), rfl, q _ (I.hok.fresh (Nat.le_refl _))⟩
  rcases hq with hq | hq
  · obtain ⟨its, r', pl, hz⟩ := I.list hq
    have hlen := r'.length
    obtain ⟨o, ho, hc, n, hd⟩ := pl.isList
    exact call_list_seq p (.inl rfl) ho hc hd (fun h' c' kp e => fin its r' hz h' c' kp e) (by simp only [List.size_toArray] <;> omega)
  · obtain ⟨its, r', pl, hz⟩ := I.tuple hq
    have hlen := r'.length
    obtain ⟨o, ho, hc, n, hd⟩ := pl
    exact call_list_seq p (.inr rfl) ho hc hd (fun h' c' kp e => fin its r' hz h' c' kp e) (by simp only [List.size_toArray] <;> omega)
theorem call_tuple_of : CallR X (.type "tuple") (fun xs H Q => ∃ p ys, xs = [.ref p] ∧ ((SqL X.K H p ys ∧ ∀ l, H l = none → Q (.ref l) (upd H l (.tup ys))) ∨ (SqT X.K H p ys ∧ Q (.ref p) H))) := by
  intro pins s σ H xs us Q I r h
  obtain ⟨p, ys, rfl, h⟩ := h
  obtain ⟨u, rfl, rx⟩ := vals1 r
  cases rx
  rcases h with ⟨hq, q⟩ | ⟨hq, q⟩
  · obtain ⟨its, r', pl, hz⟩ := I.list hq
    have hlen := r'.length
    refine call_tuple_list pl.isList (fun h' kp => ?_) (by simp only [List.size_toArray] <;> omega)
    have I1 : Inv X pins σ H { s with heap := h' } := I.kept (t' := s.toks) kp
    have I2 : Inv X pins σ (upd H h'.objs.size (.tup ys)) { s with heap := h'.push { cls := .type "tuple", data := .seq its.toArray } } :=
      I1.laid (t' := s.toks) (fun b o e => Heap.get?_push_of_some _ e) (Nat.le_refl _) (show ObjOk X.prog X.w _ _ _ (.tup ys) from ⟨hz, its, r', IsTup.new _ _⟩)
    exact ⟨.ref h'.objs.size, _, I2, rfl, q _ (I1.hok.fresh (Nat.le_refl _))⟩
  · obtain ⟨its, r', pl, hz⟩ := I.tuple hq
    exact call_tuple_same pl ⟨.ref p, H, I, rfl, q⟩

/-! ### the call of a builtin's method: o.m(..) -/
variable {o e : Expr} {es : List Expr} {to : TE} {t : TA} {name : Str} {apos cpos : Pos} {T id : String} {r : V → List V → Hp → VK → Prop}
/- xs.append(e), list.index on a module's tuple .. are MtR facts of 06m -/
end
end L2

namespace L2
open PySem PySem.Spec PyProof.Rows

def MtM (X : Cx) (id : String) (r : V → List V → Hp → VK → Prop) : Prop :=
  ∀ (pins : List (Addr × Obj)) (s : Shared) (σ : St) (H : Hp) (x : V) (xs : List V) (v : Value) (us : List Value) (Q : VK), Inv X pins σ H s → RelV x v → Vals xs us → r x xs H Q →
    wpAny (model X.prog X.w) X.A (call (.builtin id) (v :: us)) (EP X pins σ Q) X.xe s

/-! ### lists of values -/
theorem Vals.one : ∀ {x : V} {us : List Value}, Vals [x] us → ∃ u, us = [u] ∧ RelV x u
  | _, _, .cons r .nil => ⟨_, rfl, r⟩

section
variable {X : Cx} {pins : List (Addr × Obj)} {σ : St} {H : Hp} {s : Shared} {l b : Addr} {xs ys zs : List V}

/-! ### the two steps: a tracked list is rewritten, a new list is laid -/
theorem Inv.lset {its its' : List Value} {n : Nat} {f : Array Value → Array Value} {t' : Nat} (I : Inv X pins σ H s) (hH : H l = some (.lst xs))
    (e : s.heap.get? l = some { cls := .type "list", data := .seq its.toArray n }) (hf : f its.toArray = its'.toArray) (hv : Vals ys its') (hz : ys.length ≤ sizeLine) :
    Inv X pins σ (upd H l (.lst ys)) { s with heap := s.heap.update l (Obj.mapSeq f), toks := t' } := by
  have q := PySem.IsL.update e f
  rw [hf] at q
  refine I.write (x := l) (e := l) (by rw [hH]; exact trivial) (.inl rfl) (fun b' u hb hu => (Heap.get?_update_other s.heap (Obj.mapSeq f) (Ne.symm hb)).trans hu) ⟨_, q⟩ ?_
  exact ⟨hz, its', _, hv, q⟩
theorem Inv.lnew {its : List Value} {t' : Nat} (I : Inv X pins σ H s) (hv : Vals ys its) (hz : ys.length ≤ sizeLine) :
    Inv X pins σ (upd H s.heap.objs.size (.lst ys)) { s with heap := s.heap.push { cls := .type "list", data := .seq its.toArray }, toks := t' } :=
  I.laid (fun _ _ q => Heap.get?_push_of_some _ q) (Nat.le_refl _) ⟨hz, its, 0, hv, Heap.get?_push_size _ rfl⟩
theorem Inv.fresh (I : Inv X pins σ H s) : H s.heap.objs.size = none := I.hok.fresh (Nat.le_refl _)
theorem Inv.lstM (I : Inv X pins σ H s) (hH : H l = some (.lst xs)) : xs.length ≤ sizeLine ∧ ∃ (its : List Value) (n : Nat), Vals xs its ∧ xs.length = its.length ∧ s.heap.get? l = some { cls := .type "list", data := .seq its.toArray n } := by
  obtain ⟨z, its, n, r, e⟩ := I.hok l _ hH
  exact ⟨z, its, n, r, r.length, e⟩

end

section
variable {X : Cx}

/-! ### methods -/
def rAppend : V → List V → Hp → VK → Prop := fun x vs H Q => ∃ l xs y, x = .ref l ∧ vs = [y] ∧ H l = some (.lst xs) ∧ xs.length < sizeLine ∧ Q .non (upd H l (.lst (xs ++ [y])))
theorem mt_append : MtM X "list.append" rAppend := by
  intro pins s σ H x vs v us Q I rx rv h
  obtain ⟨l, xs, y, rfl, rfl, hH, hz, q⟩ := h
  cases rx
  obtain ⟨u, rfl, ru⟩ := rv.one
  obtain ⟨z, its, n, r, hl, e⟩ := I.lstM hH
  refine call_meets F.slot_list_append ⟨_, e, rfl⟩ F.entry_list_append (F.args_list_append_2 _ _) (PySem.list_append l its.toArray n u (by rw [List.size_toArray]; omega)) ⟨e, ?_⟩
  refine ⟨.non, _, I.lset (its' := its ++ [u]) hH e (by simp) (r.append (.cons ru .nil)) ?_, rfl, q⟩
  rw [List.length_append, List.length_singleton]
  omega






/-! ### list + list, list += list, list * int -/
def rCat : R2 := fun x y H Q => ∃ l b xs zs, x = .ref l ∧ y = .ref b ∧ H l = some (.lst xs) ∧ H b = some (.lst zs) ∧ xs.length + zs.length ≤ sizeLine ∧ ∀ p, H p = none → Q (.ref p) (upd H p (.lst (xs ++ zs)))
theorem op_cat : OpR X (binaryOp .Add) rCat := by
  intro pins s σ H x y v u Q I rx ry h
  obtain ⟨l, b, xs, zs, rfl, rfl, hH, hB, hz, q⟩ := h
  cases rx
  cases ry
  obtain ⟨z, its, n, r, hl, e⟩ := I.lstM hH
  obtain ⟨z2, its2, n2, r2, hl2, e2⟩ := I.lstM hB
  refine PySem.P.add_list e e2 ?_ (by rw [List.size_toArray, List.size_toArray]; omega)
  have ea : its.toArray ++ its2.toArray = (its ++ its2).toArray := by simp
  rw [ea]
  exact ⟨.ref _, _, I.lnew (t' := s.toks) (r.append r2) (by rw [List.length_append]; omega), rfl, q _ I.fresh⟩

/-! ### del xs[i] -/
end

/-! ### xs[a:b] = ys -/
section
variable {prog : Program} {w : World} {A : Around} {E : Value → Shared → Prop} {s : Shared}
set_option maxRecDepth 100000 in
end

end L2

namespace Att
open PySem PySem.W PySem.Calls PyProof.Rows

/-! ### the script -/
theorem ints_of_wellAll {P : Params} {h : Heap} : ∀ (ns : List Int) (vs : List Value), WellAll P h vs (ns.map WData.int) → IntsAre vs ns := by
  intro ns
  induction ns with
  | nil =>
    intro vs w
    rw [List.map_nil] at w
    cases w
    exact .nil
  | cons n ns ih =>
    intro vs w
    rw [List.map_cons] at w
    cases w with
    | cons a b =>
      cases a
      exact .cons _ _ (ih _ b)

theorem script_of {l : OpenLaw} {n : Nat} (hn : l.most = some n) {P : Params} {h : Heap} {args : List WData} {vals : List Value}
    (hpre : l.row.toRowW.claim.pre args = true) (hwl : WellAll P h vals args) :
    ∃ a vs ns, vals = [Value.ref a] ∧ args = [WData.list (ns.map WData.int)] ∧ h.get? a = some { cls := .type "list", data := .seq vs.toArray } ∧ IntsAre vs ns ∧ ns.length ≤ n := by
  have hsh : WShape.hasAll [] args [.list .int] = true := (pre_splitW hpre).1
  have hc : l.pre.holds [] { args := args } = true := (pre_splitW hpre).2
  obtain ⟨d, r, rfl, h1, h2⟩ := hasAllW_cons hsh
  obtain rfl := hasAllW_nil h2
  obtain ⟨xs, rfl, h3⟩ := hasW_list h1
  obtain ⟨ns, rfl⟩ := items_int h3
  have hlen : ns.length ≤ n := by
    unfold OpenLaw.pre at hc
    have h4 : (WTm.not (.lt (.lit (.int (n : Int))) (.len (.arg 0)))).holds [] { args := [.list (ns.map .int)] } = true := by
      have h4 := (holds_andW hc).1
      rw [hn] at h4
      exact h4
    have h5 := condW_of h4 (w_not (w_lt w_lit (w_len_list (w_arg rfl))))
    rw [List.length_map] at h5
    refine Nat.le_of_not_lt fun q => ?_
    have q' : (n : Int) < ((ns.length : Nat) : Int) := by omega
    first
      | (rw [decide_eq_true q'] at h5; exact absurd h5 (by decide))
      | (simp at h5; omega)
  cases hwl with
  | cons w1 w2 =>
    cases w2
    cases w1 with
    | list ho hall => exact ⟨_, _, ns, rfl, rfl, ho, ints_of_wellAll ns _ hall, hlen⟩

theorem post_true (l : OpenLaw) (args : List WData) : l.row.toRowW.claim.post args (.bool true) args = true :=
  postW_of (r := l.row.toRowW) (X := (true == true))
    (show WShape.has [] (.bool true) .bool = true by first | rfl | decide | simp [WShape.has, WShape.arms, WShape.armsAll])
    (show (WTm.eq .res (.lit (.bool true))).value [] { args := args, res := some (.bool true), after := args } = some (.bool (true == true)) from w_eq_bool (w_res rfl) w_lit) rfl

/-! ### the attachment: holds_open's last premise (the goal 'hc' behind k_head) from a wpAny of the law's body -/

/-- the same from a codeAny of the CALL (for a layer whose function contracts speak of calls) -/
theorem attach_call {l : OpenLaw} {n : Nat} {q : Program} {loose : List Str} {XP : (Str → Option Value) → Heap → Prop} {YP : World → Heap → Prop} {d : DefRec}
    (hn : l.most = some n) (hdf : d.params.defaults = [])
    (call : ∀ (w : World) (s₀ s₁ : Shared) (mg mb : Str → Option Value) (fa : Addr) (o : Obj) (pm cd doc : Value) (a : Addr) (vs : List Value) (ns : List Int),
      Ground q loose [] XP w s₀ mg mb s₁.heap → YP w s₁.heap →
      s₁.heap.get? fa = some o → o.data = .func (docDef d.name d.params d.body d.scope pm cd doc) → s₁.heap.CodeRec cd d.name → mg d.name = some (.ref fa) →
      s₁.heap.get? a = some { cls := .type "list", data := .seq vs.toArray } → IntsAre vs ns → ns.length ≤ n → s₁.gens = #[] →
      codeAny (model l.prog w) callerA (.call (.ref fa) ⟨[.ref a], []⟩) (fun r s' => r = .ok (.ret (.bool true)) ∧ OldK s₁.heap s'.heap ∧ s'.os = s₁.os ∧ AllBare s'.gens) s₁) :
    WalkO q loose XP YP l.row.toRowW d [] (fun f vs => PySem.call f vs) := by
  intro w s₀ s₁ mg mb G Y fa o pm cd doc dV kV ho hd hcd hD hmg hg args vals as hpre hlay hrd hwl hlo
  obtain rfl : dV = .none := Dflts.none hD hdf
  obtain rfl : kV = .none := Dflts.noKw hD
  obtain ⟨a, vs, ns, rfl, rfl, hobj, hints, hlen⟩ := script_of hn hpre hwl
  refine enter_call (codeAny_mono (call w s₀ s₁ mg mb fa o pm cd doc a vs ns G Y ho (fd_plain hd) hcd hmg hobj hints hlen hg) fun r s' hq => ?_)
  obtain ⟨rfl, h2, h3, h4⟩ := hq
  exact ⟨.inl ⟨.bool true, .bool true, [], rfl, fun _ => rfl, .bool true, post_true l _, fun _ => ⟨List.Pairwise.nil, fun _ hm => (nomatch hm)⟩⟩, h2, h3, h4⟩


/-! ### rules over ANY heap (no ledger) from facts about the written part K: the library's own take a ledger (News) for what they write -/
section
variable {prog : Program} {w : World} {A : Around} {E : Value → Shared → Prop} {s : Shared} {K : Frag}





/-! the whole heap as the ledger: makes every rule that writes through a ledger a rule over any heap -/

end
end Att

namespace L2
open PySem PySem.Spec PyProof.Rows

theorem vals_ints : ∀ {vs : List Value} {ns : List Int}, IntsAre vs ns → Vals (ns.map V.int) vs
  | _, _, .nil => .nil
  | _, _, .cons n t h => .cons ⟨t, rfl⟩ (vals_ints h)

/-- nothing is tracked but the script, known to the object (or it is an object of the module) -/
def Only (H : Hp) : Prop := ∀ b, H b = none ∨ ∃ o xs, H b = some (.frz o (.lst xs))

/-- THE HEAD: the law's promise, at the heap behind the top. F, the promise of the law's def, may use that base is part of the heap (so K.In base, base.Ns mainGlobals mg stand in Mod) -/
theorem law_call {P : Program} {w : World} {K : PySem.W.Frag} {mg mb : Str → Option Value} {CX : CXT} {k : Nat} {fa a : Addr} {fd : FuncData} {x : Str} {sp : Sp} {s₁ : Shared} {vs : List Value} {ns : List Int}
    (KX : K.In s₁.heap) (hns : s₁.heap.Ns mainGlobals mg) (hb : s₁.heap.Ns builtinsNs mb) (hbb : ∀ x : Str, x ≠ "__name__" → mb x = bootBuiltins x) (hlim : s₁.heap.NoLimit) (hg : s₁.gens = #[])
    (ha : s₁.heap.get? a = some { cls := .type "list", data := .seq vs.toArray }) (hi : IntsAre vs ns) (hl : ns.length ≤ sizeLine) (hr : Room k callerA)
    (F : ∀ base : Heap, K.In base → base.Ns mainGlobals mg → FnOk P w K mg base CX k fa fd [x] sp) (hbind : ∀ (s : Shared) (u : Value), BindsTo s fd ⟨[u], []⟩ [(x, u)])
    (hsp : ∀ H : Hp, Only H → SqL K H a (ns.map V.int) → sp [.ref a] H (fun v _ => v = .bl true) fun _ _ _ => False)
    (hCX : ∀ H e s', CX [] H s₁ (fun _ _ _ => False) e s' → False) :
    codeAny (model P w) callerA (.call (.ref fa) ⟨[.ref a], []⟩) (fun r s' => r = .ok (.ret (.bool true)) ∧ OldK s₁.heap s'.heap ∧ s'.os = s₁.os ∧ AllBare s'.gens) s₁ := by
  have rv := vals_ints hi
  have lenV := hi.length
  -- from an abstract heap in which nothing but the script may be tracked
  have core : ∀ H : Hp, Only H → SqL K H a (ns.map V.int) → HOk P w H s₁.heap → (∀ b, H b ≠ none → b = a) → (H a ≠ none → K.lookup a = none) →
      codeAny (model P w) callerA (.call (.ref fa) ⟨[.ref a], []⟩) (fun r s' => r = .ok (.ret (.bool true)) ∧ OldK s₁.heap s'.heap ∧ s'.os = s₁.os ∧ AllBare s'.gens) s₁ := by
    intro H hO hS hok hA hK
    have base_of : ∀ {b : Addr} {o : Obj}, s₁.heap.get? b = some o → H b = none → (hidT s₁.heap H).get? b = some o := fun e n => hidT_get e n
    have noA : ∀ {b : Addr} {o : Obj} {es : Array DictEntry} {ep : Nat}, s₁.heap.get? b = some o → o.data = .dict es ep → H b = none := fun {b o es ep} e d => by
      cases q : H b with
      | none => rfl
      | some u =>
        have e' : b = a := hA b (by rw [q]; simp)
        subst e'
        rw [ha] at e; cases e
        have d' : Data.seq vs.toArray _ = Data.dict es ep := d
        cases d'
    have nsK : ∀ {b : Addr} {m : Str → Option Value}, s₁.heap.Ns b m → (hidT s₁.heap H).Ns b m := fun {b m} ⟨o, es, ep, e, d, r⟩ => ⟨o, es, ep, base_of e (noA e d), d, r⟩
    have hKb : K.In (hidT s₁.heap H) := fun b o e => base_of (KX b o e) (by
      cases q : H b with
      | none => rfl
      | some u =>
        have e' : b = a := hA b (by rw [q]; simp)
        subst e'
        rw [hK (by rw [q]; simp)] at e; cases e)
    have hM : Mod K mg (hidT s₁.heap H) := ⟨hKb, nsK hns, ⟨mb, nsK hb, hbb⟩, let ⟨mc, h1, h2⟩ := hlim; ⟨mc, nsK h1, h2⟩⟩
    have e0 : Env0 P w K mg (hidT s₁.heap H) callerA [] s₁ H := ⟨rfl, hM, fun b o e => of_hidT e, Nat.le_of_eq (hidT_size _ _), trivial, fun b hb => absurd (show b ∈ ([] : List Addr) from hb) (by simp), hok, .of_eq hg⟩
    refine codeAny_mono ((F _ hKb (nsK hns)).run callerA [] s₁ H ⟨[.ref a], []⟩ [.ref a] [.ref a] _ _ hr e0 (hbind s₁ (.ref a)) (.cons rfl .nil) (hsp H hO hS)) fun r s' h => ?_
    cases r with
    | error e => exact (hCX H e s' h).elim
    | ok fl =>
      cases fl with
      | next => exact False.elim h
      | brk => exact False.elim h
      | cont => exact False.elim h
      | ret u =>
        obtain ⟨v, H', os, bare, un, hok', r', q⟩ := h
        have q' : v = .bl true := q
        subst q'
        obtain rfl : u = Value.bool true := r'
        refine ⟨rfl, OldK.of_keep fun b o e => ?_, os, bare⟩
        cases q : H b with
        | none => exact un.keep b o e q (by intro z; exact absurd (show b ∈ ([] : List Addr) from z) (by simp)) (by simp)
        | some u =>
          rcases hO b with z | ⟨ob, xs, z⟩
          · rw [q] at z; cases z
          · have z2 := un.frzs b ob _ z
            obtain ⟨e1, _⟩ := hok b _ z
            obtain ⟨e2, _⟩ := hok' b _ z2
            rw [e] at e1; cases e1
            exact e2
  cases hk : K.lookup a with
  | some o =>
    -- the script is one of the module's own objects
    have e := KX a o hk
    rw [ha] at e
    cases e
    refine core (fun _ => none) (fun _ => .inl rfl) (.inr ⟨_, vs.toArray, _, hk, rfl, rfl, rfl, by rw [List.size_toArray, lenV]; exact hl, by simpa using rv⟩) (fun b u z => by have z' : (none : Option HO) = some u := z; cases z') (fun b z => absurd rfl z) fun z => absurd rfl z
  | none =>
    refine core (fun b => if b = a then some (.frz { cls := .type "list", data := .seq vs.toArray } (.lst (ns.map V.int))) else none) (fun b => ?_) (.inl (.inr ⟨{ cls := .type "list", data := .seq vs.toArray }, if_pos rfl⟩)) (fun b u z => ?_) (fun b z => ?_) fun _ => hk
    · by_cases hb : b = a
      · exact .inr ⟨_, _, if_pos hb⟩
      · exact .inl (if_neg hb)
    · by_cases hb : b = a
      · have z' := (if_pos hb).symm.trans z
        cases z'
        subst hb
        exact ⟨ha, by rw [List.length_map]; exact hl, vs, _, rv, ha⟩
      · have z' := (if_neg hb).symm.trans z
        cases z'
    · by_cases hb : b = a
      · exact hb
      · exact absurd (if_neg hb) z
end L2

namespace L2
open PySem PySem.Spec PyProof.Rows


/-- the goal that k_head leaves (case hc), from the law's promise. F gives the function object fd (K's own) once, then the promise over every base -/
theorem walk_of {l : PySem.W.OpenLaw} {n k : Nat} {q : Program} {loose : List Str} {XP : (Str → Option Value) → Heap → Prop} {YP : World → Heap → Prop} {d : DefRec} {K : Params → PySem.W.Frag} {CX : World → CXT} {sp : World → Sp} {x : Str}
    (hn : l.most = some n) (hn2 : n ≤ sizeLine) (hdf : d.params.defaults = []) (hr : Room k callerA)
    (hY : ∀ (w : World) (h : Heap), YP w h → (K w.params).In h)
    (F : ∀ (w : World) (mg : Str → Option Value) (fa : Addr) (h : Heap), (K w.params).In h → h.Ns mainGlobals mg → mg d.name = some (.ref fa) →
      ∃ fd : FuncData, (∀ (s : Shared) (u : Value), BindsTo s fd ⟨[u], []⟩ [(x, u)]) ∧
        ∀ base : Heap, (K w.params).In base → base.Ns mainGlobals mg → FnOk l.prog w (K w.params) mg base (CX w) k fa fd [x] (sp w))
    (hsp : ∀ (w : World) (H : Hp) (a : Addr) (ns : List Int), ns.length ≤ n → Only H → SqL (K w.params) H a (ns.map V.int) → sp w [.ref a] H (fun v _ => v = .bl true) fun _ _ _ => False)
    (hCX : ∀ (w : World) (H : Hp) (s : Shared) (e : Value) (s' : Shared), CX w [] H s (fun _ _ _ => False) e s' → False) :
    PySem.W.WalkO q loose XP YP l.row.toRowW d [] (fun f vs => PySem.call f vs) := by
  refine Att.attach_call hn hdf fun w s₀ s₁ mg mb fa o pm cd doc a vs ns G Y ho hd hcd hmg hobj hints hlen hg => ?_
  have KX := hY w _ Y
  obtain ⟨fd, hb, hF⟩ := F w mg fa _ KX G.T.g hmg
  exact law_call KX G.T.g G.T.b G.T.builtins G.T.nolimit hg hobj hints (Nat.le_trans hlen hn2) hr hF hb (fun H hO hS => hsp w H a ns hlen hO hS) fun H e s' => hCX w H s₁ e s'
end L2



/-! SHORT WORDS over the layer: a def of the text, its body, what a loop and a test want. -/
namespace L2
open PySem PySem.Spec PyProof.Rows

/-! ### the text by places -/
/-- the j-th statement of a class's body -/
def inClass (s : Stmt) (j : Nat) : Stmt := match s with
  | .ClassDef _ _ _ body _ _ _ _ _ _ _ => body.getD j (.Pass ⟨0, 0, 0, 0⟩)
  | _ => .Pass ⟨0, 0, 0, 0⟩
def defArgs (s : Stmt) : Arguments := match s with
  | .FunctionDef _ a _ _ _ _ _ _ _ _ => a
  | _ => { posonlyargs := [], args := [], vararg := none, kwonlyargs := [], kw_defaults := [], kwarg := none, defaults := [] }
def defBody (s : Stmt) : List Stmt := match s with
  | .FunctionDef _ _ b _ _ _ _ _ _ _ => b
  | _ => []
def defScope (s : Stmt) : Scope := match s with
  | .FunctionDef _ _ _ _ _ _ sc _ _ _ => sc
  | _ => { kind := .function, names := [], isGenerator := false, isCoroutine := false }

/-! ### no exception leaves a def -/
abbrev CX0 : CXT := fun _ _ _ _ _ _ => False
abbrev E0 : XK := fun _ _ _ => False
theorem pass0 {X : Cx} : Passes CX0 X E0 := fun _ _ _ _ _ _ _ h => h.elim

/-! ### a def (or method) of the text as it stands behind the top -/
structure Fun (K : PySem.W.Frag) (x qual : Str) (st : Stmt) (f : Addr) (fd : FuncData) : Prop where
  ex : ∃ (oc : Value) (od : Option Addr) (kV doc pm : Value) (an : Option Addr) (cdv ct : Value) (osl : Array (Option Value)),
    fd = PySem.W.fnOf x qual (defArgs st) (defBody st) (defScope st) .none kV doc pm an cdv ct ∧ K.lookup f = some ⟨oc, od, .func fd, osl⟩ ∧ PySem.W.codeIn K cdv qual = true
  kp : PySem.W.keepIn K (.ref f) = true
section
variable {P : Program} {w : World} {K : PySem.W.Frag} {mg : Str → Option Value} {base : Heap}
/-- THE RULE for a def: its body as a term of rules, and the reading of that term -/
theorem Fun.ok {x qual : Str} {st : Stmt} {f : Addr} {fd : FuncData} {N ps : List Str} {k : Nat} {sp : Sp} (F : Fun K x qual st f fd) (S : FnScope N ps (defScope st)) (len : ∀ vs H Q E, sp vs H Q E → vs.length = ps.length)
    (hbody : ∀ (cdv : Value) (A : Around) (outer : List Env) (s : Shared) (H : Hp) (vs : List V) (Q : VK) (E : XK), Room k (A.deeper (envOfC qual (defScope st) s.heap.objs.size f cdv)) → sp vs H Q E →
      ∃ t, PSs (cxOf CX0 P w K mg base N qual (defScope st) f cdv A outer s H E).nox (defBody st) t ∧ t { nx := fun _ H' => Q .non H', rt := Q } (start N vs) H) : FnOk P w K mg base CX0 (k + 1) f fd ps sp := by
  obtain ⟨oc, od, kV, doc, pm, an, cdv, ct, osl, rfl, lk, hcd⟩ := F.ex
  refine fn_of lk hcd S len fun A outer s H vs Q E hr hsp => ?_
  obtain ⟨t, h, q⟩ := hbody cdv A outer s H vs Q E hr hsp
  exact ⟨t, h.nox, q⟩
/-- how its arguments bind (no defaults): h is «fun _ _ _ _ _ _ us hl => match us, hl with | [_, _], _ => rfl», one _ a parameter -/
theorem Fun.binds {x qual : Str} {st : Stmt} {f : Addr} {fd : FuncData} {ps : List Str} (F : Fun K x qual st f fd)
    (h : ∀ (kV doc pm : Value) (an : Option Addr) (cdv ct : Value) (us : List Value), us.length = ps.length → bindArgs (PySem.W.fnOf x qual (defArgs st) (defBody st) (defScope st) .none kV doc pm an cdv ct) ⟨us, []⟩ = pure (ps.zip us)) : Binds K fd ps [] := by
  obtain ⟨oc, od, kV, doc, pm, an, cdv, ct, osl, rfl, lk, hcd⟩ := F.ex
  exact .all (h kV doc pm an cdv ct)
theorem fun_mk {x qual : Str} {st : Stmt} {f : Addr} {oc : Value} {od an : Option Addr} {osl : Array (Option Value)} {kV doc pm cdv ct : Value} (l : K.lookup f = some ⟨oc, od, .func (PySem.W.fnOf x qual (defArgs st) (defBody st) (defScope st) .none kV doc pm an cdv ct), osl⟩)
    (c : PySem.W.codeIn K cdv qual = true) (k : PySem.W.keepIn K (.ref f) = true) : Fun K x qual st f (PySem.W.fnOf x qual (defArgs st) (defBody st) (defScope st) .none kV doc pm an cdv ct) := ⟨⟨oc, od, kV, doc, pm, an, cdv, ct, osl, rfl, l, c⟩, k⟩
end
theorem small1000 {n : Nat} (h : n ≤ 1000) : n < sizeLine := Nat.lt_of_le_of_lt h (by decide)

/-! ### expressions in short: the name that stands in the i-th slot -/
section
variable {X : Cx}
theorem pv (i : Nat) {x : Str} {pos : Pos} (hN : X.N[i]? = some x := by rfl) (hv : Vis X.env.scope x := by first | exact Or.inl rfl | exact Or.inr (Or.inl rfl) | exact Or.inr (Or.inr rfl)) (hd : (x == ("__debug__" : Str)) = false := by decide)
    (hcd : (x == ("__classdict__" : Str)) = false := by decide) : PE X (.Name x pos) (tVar i) := pe_var hN hv hd hcd
end

/-! ### tests -/

/-! ### heaps -/
/-- all that was tracked is as it was -/
def Same (H H' : Hp) : Prop := ∀ b o, H b = some o → H' b = some o
theorem Same.trans {H H1 H2 : Hp} (a : Same H H1) (b : Same H1 H2) : Same H H2 := fun c o h => b c o (a c o h)
theorem Same.free {H H' : Hp} (e : Same H H') {l : Addr} (h : H' l = Option.none) : H l = Option.none := by
  cases q : H l with
  | none => rfl
  | some o =>
    rw [e l o q] at h
    cases h

end L2

set_option linter.all false
set_option maxRecDepth 100000
set_option maxHeartbeats 4000000
namespace L2
open PySem PySem.Spec PyProof.Rows
/-! wider rules of one's own over the layer -/
/-- so many bits at the most -/
def Bd (n : Nat) (i : Int) : Prop := i.natAbs < 2 ^ n
theorem Bd.mono {m n : Nat} {i : Int} (h : Bd m i) (e : m ≤ n) : Bd n i := Nat.lt_of_lt_of_le h (Nat.pow_le_pow_right (by decide) e)
theorem Bd.neg {m : Nat} {i : Int} (h : Bd m i) : Bd m (-i) := by
  unfold Bd at *; rw [Int.natAbs_neg]; exact h
theorem Bd.log {m : Nat} {i : Int} (h : Bd m i) (hm : 0 < m) : i.natAbs.log2 < m := by
  unfold Bd at h
  by_cases e : i.natAbs = 0
  · rw [e]; simpa using hm
  · exact (Nat.log2_lt e).mpr h
theorem Bd.le {m : Nat} {i j : Int} (h : Bd m j) (e : i.natAbs ≤ j.natAbs) : Bd m i := Nat.lt_of_le_of_lt e h
/-- a division that goes by no other module -/
def CDivB (_ j : Int) : Prop := j ≠ 0 ∧ Bd 9000 j
section
variable {X : Cx}
theorem op_mulB : OpR X (binaryOp .Mult) (rI IntMulOk fun i j => .int (i * j)) := opI fun _ _ _ _ _ _ _ hc q => mul_int q hc
theorem op_fdivB : OpR X (binaryOp .FloorDiv) (rI CDivB fun i j => .int (i.fdiv j)) := opI fun _ _ _ _ _ _ _ hc q => floordiv_int hc.1 q (.inl (PyProof.noPylong_of_log2 (hc.2.log (by decide))))
/-- isinstance(x, T), T a type of the language -/
theorem call_isinst : CallR X (.builtin "isinstance") (fun xs H Q => ∃ x n t b, xs = [x, .ty n] ∧ TyOf X.K H x t ∧ PySem.W.kitOne X.K t (.type n) = some b ∧ Q (.bl b) H) := by
  intro pins s σ H xs us Q I r h
  obtain ⟨x, n, t, b, rfl, ty, e, q⟩ := h
  obtain ⟨u, v, rfl, ru, rv⟩ := vals2 r
  cases (show v = Value.type n from rv)
  exact isinst_ok I ru ty e fun tk => ⟨.bl b, H, I.tok _, rfl, q⟩
theorem kit_same {K : PySem.W.Frag} {n : String} : PySem.W.kitOne K (.type n) (.type n) = some true := by
  unfold PySem.W.kitOne; rw [if_pos (beq_self_eq_true _)]
/-- all(xs), any(xs) of bools -/
theorem boolsAre_of : ∀ {bs : List Bool} {us : List Value}, Vals (bs.map V.bl) us → PyProof.Rows.LSm.BoolsAre us bs := by
  intro bs
  induction bs with
  | nil => intro us h; cases h; exact .nil
  | cons b bs ih =>
    intro us h
    cases h with
    | cons r t =>
      cases (show _ = Value.bool b from r)
      exact .cons _ (ih t)
theorem call_all (hc : X.calm = true) : CallR X (.builtin "all") (fun xs H Q => ∃ (p : Addr) (bs : List Bool), xs = [.ref p] ∧ SqL X.K H p (bs.map V.bl) ∧ Q (.bl (bs.all id)) H) := by
  intro pins s σ H xs us Q I r h
  obtain ⟨p, bs, rfl, hq, q⟩ := h
  obtain ⟨u, rfl, ru⟩ := vals1 r
  cases ru
  obtain ⟨vs, rv, pl, hz⟩ := I.list hq
  have hl := pl.isList
  have hb := boolsAre_of rv
  have hh : X.A.handled = none := I.ok.hd hc
  have hlt : p < s.heap.objs.size := by obtain ⟨_, e, _⟩ := hl; exact Heap.lt_size e
  have W := Walks.list (A := X.A.in1) (prog := X.prog) (w := X.w) hh s.heap.objs.size p (Nat.ne_of_lt hlt) vs.toArray
  have tr : ∀ (i : Nat) (v : Value) (s' : Shared) (Q' : Bool → Shared → Prop) (E' : Value → Shared → Prop), vs.toArray[i]? = some v → Q' ((bs[i]?).getD true) s' → wpAny (model X.prog X.w) X.A.in1 (truthy v) Q' E' s' := fun i v s' Q' E' e q' => by
    obtain ⟨b, e2, rfl⟩ := hb.get i v (by simpa using e)
    rw [e2] at q'
    exact wpAny_truthy_bool q'
  have tot : ((List.range vs.toArray.size).all fun i => (bs[i]?).getD true) = bs.all id := by
    rw [List.size_toArray, hb.length]
    exact PyProof.Rows.LSm.range_all bs
  exact call_all_walk (wpAny_pyIter_list hl ⟨_, _, _, _, _, _, fun i => (bs[i]?).getD true, rfl, W, ⟨⟨_, Heap.get?_push_size _ rfl, rfl, rfl⟩, hl.push _⟩, tr, fun h' tk hk => by
    rw [tot]
    exact ⟨.bl _, H, I.kept (PyProof.Rows.LSm.kept_iter hk), rfl, q⟩⟩)
end
/-! ### == of tuples and lists of data -/
end L2

set_option linter.all false
set_option maxRecDepth 100000
set_option maxHeartbeats 4000000
namespace L2
open PySem PySem.Spec PyProof.Rows
/-! ### a comprehension -/
/-- the context of its block -/
def blk (X : Cx) (N' : List Str) (scope : Scope) (cl : List (Str × Addr)) (C : Addr) (fp : List Addr) (s0 : Shared) (H0 : Hp) : Cx :=
  { X with N := N', s₀ := s0, H₀ := H0, env := compEnvC scope cl C X.env, outer := X.stack, stack := X.stack, ex := fp, fn := fun _ => false, pn := [], xe := fun _ _ => False }
/-- what was known of the slots is known -/
def KeepS (a b : St) : Prop := b.length = a.length ∧ ∀ (i : Nat) v, a[i]? = some (some v) → b[i]? = some (some v)
theorem KeepS.none1 {v : Option V} : KeepS [none] [v] := ⟨rfl, fun i w h => by
  cases i with
  | zero => cases h
  | succ i => simp at h⟩
theorem KeepS.cons {a b : St} (h : KeepS a b) (v : Option V) : KeepS (none :: a) (v :: b) := ⟨by simp [h.1], fun i w e => by
  cases i with
  | zero => cases e
  | succ i => simpa using h.2 i w (by simpa using e)⟩
theorem KeepS.refl (a : St) : KeepS a a := ⟨rfl, fun _ _ h => h⟩
def tComp (wi : TI) (fr : St → St) (g : TG) (te : TE) : TE := fun σ H Q => wi σ H fun J H1 => ∀ D, H1 D = none → ∃ W : Nat → Nat → List V → Hp → Prop, (∃ m, W 0 m [] (upd H1 D (.lst []))) ∧
  ∀ i m ys H2, W i m ys H2 → (J.stop i H2 ∧ Q (.ref D) H2) ∨ (J.go i H2 ∧ ys.length < sizeLine ∧ ∀ x H3, J.yld i H2 x H3 → g x (fr σ) H3 fun σ2 H3' => KeepS (fr σ) σ2 ∧ te σ2 H3' fun y H4 =>
    H4 D = some (.lst ys) ∧ ∃ m', m' < m ∧ W (i + 1) m' (ys ++ [y]) (upd H4 D (.lst (ys ++ [y]))))
section
variable {X : Cx}
theorem blk_ok {pins : List (Addr × Obj)} {σ : St} {H : Hp} {s : Shared} {N' : List Str} {scope : Scope} {cl : List (Str × Addr)} {fp : List Addr} (I : Inv X pins σ H s) (hkind : scope.kind = .function)
    (hcl : ∀ y c, cl.lookup y = some c → X.env.cells.lookup y = some c) (hhas : ∀ y, ((relabel scope X.env).names.lookup y = some .cell ∨ (relabel scope X.env).names.lookup y = some .free) → ∃ c, cl.lookup y = some c)
    (hf : ∀ b ∈ fp, FpOk X pins H b) (hlt : ∀ b ∈ fp, b < s.heap.objs.size) : (blk X N' scope cl s.heap.objs.size fp s H).Ok where
  mod := I.ok.mod
  kind := by simp [blk, compEnvC, relabel, hkind]
  glob := I.ok.glob
  blt := I.ok.blt
  above := Nat.le_refl _
  inj := fun x y c h1 h2 => I.ok.inj x y c (hcl x c h1) (hcl y c h2)
  has := fun x h => hhas x h
  cab := fun x c h => nomatch h
  hd := I.ok.hd
  frames := I.ok.frames
  stk := .inl rfl
  exf := fun b hb => ⟨Nat.ne_of_lt (hlt b hb), fun x c e => (hf b hb).2.2.2.2.1 x c (hcl x c e)⟩
  bs := I.bs
  bsz := Nat.le_trans I.ok.bsz I.sz
  noex := fun b o e hb => by
    rcases (hf b hb).2.2.2.1 with z | z
    · exact I.ok.noex b o e z
    · exact absurd (Nat.lt_of_lt_of_le (Heap.lt_size e) (Nat.le_trans I.ok.bsz z)) (Nat.lt_irrefl _)
  exfs := fun b hb z => by
    rcases List.mem_cons.mp (I.stkSub b z) with e | e
    · exact (hf b hb).2.1 e
    · exact (hf b hb).2.2.1 e
  funs := I.stack
  frf := I.stkFree
theorem pe_lcomp {tg elt iter : Expr} {scope : Scope} {cl : List (Str × Addr)} {pos : Pos} {N' : List Str} {wi : TI} {fr : St → St} {g : TG} {te : TE}
    (hc : X.calm = true) (hi : PI X tg iter wi)
    (hg : ∀ C fp s0 H0, PG (blk X N' scope cl C fp s0 H0) tg g) (he : ∀ C fp s0 H0, PE (blk X N' scope cl C fp s0 H0) elt te)
    (hclos : closureFor scope X.env = pure cl) (hkind : scope.kind = .function) (hnames : ∀ x ∈ scope.names, x.2 = .local → scope.names.lookup x.1 = some .local) (hcell : ∀ y ∈ scope.names, y.2 ≠ .cell)
    (hcl : ∀ y c, cl.lookup y = some c → X.env.cells.lookup y = some c) (hhas : ∀ y, ((relabel scope X.env).names.lookup y = some .cell ∨ (relabel scope X.env).names.lookup y = some .free) → ∃ c, cl.lookup y = some c)
    (hfl : ∀ σ : St, σ.length = X.N.length → (fr σ).length = N'.length)
    (hfr : ∀ (σ : St) (i : Nat) (y : Str) (v : V), N'[i]? = some y → (fr σ)[i]? = some (some v) → ∃ j : Nat, X.N[j]? = some y ∧ σ[j]? = some (some v) ∧ X.env.kindOf y = some .cell ∧ (relabel scope X.env).names.lookup y = some .cell)
    (hs : ∀ x, foldedSetIterable iter X.env x = pure x := by intro _; rfl) :
    PE X (.ListComp elt [⟨tg, iter, [], 0⟩] scope pos) (tComp wi fr g te) := by
  intro pins s σ H Q I h
  rw [eval_ListComp]
  refine wpAny_comprehension_free (use := none) rfl hs hclos hkind hnames ?_
  refine thn (hi pins s σ H _ I h) fun v s1 h1 => thn h1 fun itv s2 h2 => ?_
  obtain ⟨it, fp, tn, J, H2, rfl, I2, T, st2, f2, q2⟩ := h2
  have D0 : H2 s2.heap.objs.size = none := I2.hok.fresh (Nat.le_refl _)
  obtain ⟨W, ⟨m0, w0⟩, turn⟩ := q2 _ D0
  refine wpAny_newObj_type (wpAny_newFunctionEnv hcell (by intro y hy; simp at hy) (fun h₁ hns₁ hsb₁ => ?_) hkind)
  dsimp only at hns₁ hsb₁ ⊢
  have I3 : Inv X pins σ (upd H2 s2.heap.objs.size (.lst [])) { s2 with heap := s2.heap.push { cls := .type "list", dict := none, data := .seq ([] : List Value).toArray } } :=
    I2.laid (t' := s2.toks) (fun b u e => Heap.get?_push_of_some _ e) (Nat.le_refl _) ⟨Nat.zero_le _, [], _, .nil, Heap.get?_push_size _ rfl⟩
  generalize hH3 : upd H2 s2.heap.objs.size (.lst []) = H3 at I3 w0
  generalize hs3 : ({ s2 with heap := s2.heap.push { cls := .type "list", dict := none, data := .seq ([] : List Value).toArray } } : Shared) = s3 at I3
  have eh : s3.heap = s2.heap.push { cls := .type "list", dict := none, data := .seq ([] : List Value).toArray } := by rw [← hs3]
  have fl : ∀ b ∈ fp, b < s2.heap.objs.size := fun b hb => by
    obtain ⟨o, e, _⟩ := T.obj 0 _ st2 b hb
    exact Heap.lt_size e
  have fn : ∀ b ∈ fp, H3 b = none := fun b hb => by
    rw [← hH3, upd_ne (Nat.ne_of_lt (fl b hb))]; exact (f2 b hb).1
  have f3 : ∀ b ∈ fp, FpOk X pins H3 b := fun b hb => ⟨fn b hb, (f2 b hb).2⟩
  have old : ∀ b u, s3.heap.get? b = some u → h₁.get? b = some u := fun b u e => by
    refine hsb₁.extBut b u ?_ (Heap.get?_push_of_some _ (by rw [← eh]; exact e))
    have := Heap.lt_size e
    rw [eh] at this
    exact Nat.ne_of_lt this
  have up : ∀ b u, s2.heap.get? b = some u → s3.heap.get? b = some u := fun b u e => by rw [eh]; exact Heap.get?_push_of_some _ e
  have ok := blk_ok (N' := N') (scope := scope) (cl := cl) (fp := fp) I3 hkind hcl hhas f3 fun b hb => by rw [eh, Heap.size_push]; exact Nat.lt_succ_of_lt (fl b hb)
  rw [← eh] at hns₁ ⊢
  have IB : Inv (blk X N' scope cl s3.heap.objs.size fp s3 H3) [] (fr σ) H3 { s3 with heap := h₁, toks := s2.toks + ([] : List (Str × Value)).length } := by
    refine ⟨ok, rfl, I3.bare, Un.kept old, ⟨_, hns₁, fun i y v e1 e2 e3 => ?_⟩, fun x c e => ?_, I3.hok.fresh (Nat.le_refl _), fun x c e => I3.freeC x c (hcl x c e), fun p hp => by simp [blk] at hp, I3.hok.kept old, hfl σ I3.len⟩
    · obtain ⟨j, n1, n2, n3, n4⟩ := hfr σ i y v e1 e2
      obtain ⟨m, _, hl⟩ := I3.loc
      obtain ⟨u, r, l⟩ := hl j y v n1 n2 (.inr (.inl n3))
      refine ⟨u, r, .inr ⟨.inl n4, ?_⟩⟩
      rcases l with ⟨k, _⟩ | ⟨_, c, e, ic⟩
      · rw [n3] at k; cases k
      · obtain ⟨c', e'⟩ := hhas y (.inl n4)
        have e'' := hcl y c' e'
        rw [e] at e''; cases e''
        obtain ⟨o, ho, hd⟩ := ic
        exact ⟨c, e', o, old c o ho, hd⟩
    · obtain ⟨v, o, ho, hd⟩ := I3.cell x c (hcl x c e)
      exact ⟨v, o, old c o ho, hd⟩
  have stB : tn 0 h₁ := T.keep _ _ _ st2 fun b hb o e => old b o (up b o e)
  have D2 : s2.heap.objs.size < s3.heap.objs.size := by rw [eh, Heap.size_push]; exact Nat.lt_succ_self _
  have stat : ∀ {H' : Hp}, (∀ b ∈ fp, H' b = none) → ∀ b ∈ fp, FpOk (blk X N' scope cl s3.heap.objs.size fp s3 H3) [] H' b := fun hn b hb =>
    ⟨hn b hb, Nat.ne_of_lt (Nat.lt_trans (fl b hb) D2), ok.exfs b hb, .inl hb, fun x c e => (ok.exf b hb).2 x c e, fun p hp => by simp [blk] at hp⟩
  have loop : codeAny (model X.prog X.w) X.A (.compLoop (.ListComp elt [⟨tg, iter, [], 0⟩] scope pos) 0 (.ref it) (.ref s2.heap.objs.size) (compEnvC scope cl s3.heap.objs.size X.env))
      (compPost (model X.prog X.w) X.A X.xe none (EP X pins σ Q) (.ref s2.heap.objs.size) s3.heap.objs.size) { s3 with heap := h₁, toks := s2.toks + ([] : List (Str × Value)).length } := by
    refine codeAny_loop rfl (fun n s' => ∃ i ys H', Inv (blk X N' scope cl s3.heap.objs.size fp s3 H3) [] (fr σ) H' s' ∧ tn i s'.heap ∧ (∀ b ∈ fp, H' b = none) ∧ W i n ys H') ?_ m0 ⟨0, [], H3, IB, stB, fn, w0⟩
    rintro n s4 ⟨i, ys, H4, I4, st4, fr4, w4⟩
    show wpAny _ _ ((compTurn (.ListComp elt [⟨tg, iter, [], 0⟩] scope pos) 0 (.ref it) (.ref s2.heap.objs.size) (compEnvC scope cl s3.heap.objs.size X.env)).onRaise (fun x => do noteFrame x (compEnvC scope cl s3.heap.objs.size X.env); theTreesLotGoes x)) _ _ s4
    refine wpAny_noted ?_
    rw [compTurn_list1]
    refine wpAny_bind (wpAny_standAt (wpAny_bind ?_))
    rcases turn i n ys H4 w4 with ⟨stop, qn⟩ | ⟨go, hz, step⟩
    · refine thn (T.done (blk X N' scope cl s3.heap.objs.size fp s3 H3) rfl rfl rfl hc i [] s4 (fr σ) H4 _ I4 (stat fr4) st4 stop) fun r s5 ⟨hr, I5⟩ => ?_
      subst hr
      refine wpAny_pure ?_
      obtain ⟨m, hn, _⟩ := I5.loc
      refine ⟨m, hn, fun h' sb => ⟨.ref s2.heap.objs.size, H4, ?_, rfl, qn⟩⟩
      have hb : ∀ b u, b ≠ s3.heap.objs.size → s5.heap.get? b = some u → h'.get? b = some u := fun b u n e => sb.extBut b u n e
      have hlt : ∀ b u, s3.heap.get? b = some u → b ≠ s3.heap.objs.size := fun b u e => Nat.ne_of_lt (Heap.lt_size e)
      have B := I5.base
      refine I3.call' (s' := { s5 with heap := h' }) (ch := fp) I5.os ⟨fun b o e n1 n2 n3 => hb b o (hlt b o e) (B.keep b o e n1 n2 n3), fun b o e n1 n2 n3 => ?_, B.free, fun b o e n1 => ?_, B.tups, B.frzs, B.tbls⟩ (fun a o e => ?_) I5.bare (fun b hb' => ?_)
      · obtain ⟨sl, z⟩ := B.slot b o e n1 n2 n3
        exact ⟨sl, hb b _ (hlt b o e) z⟩
      · obtain ⟨o', z⟩ := B.there b o e n1
        exact ⟨o', hb b _ (hlt b o e) z⟩
      · have nC : ∀ c u, H4 c = some u → c ≠ s3.heap.objs.size := fun c u z w => by
          have := I5.free
          rw [show (blk X N' scope cl s3.heap.objs.size fp s3 H3).env.locals = s3.heap.objs.size from rfl, ← w, z] at this
          cases this
        refine (I5.hok a o e).stay (fun c u hcu q => hb c u ?_ q) (fun _ q => q) fun _ _ q => q
        rcases hcu with z | z
        · rw [z]; exact nC a o e
        · exact nC c _ z
      · exact ⟨(f2 b hb').2.2.2.1, (f2 b hb').2.1, (f2 b hb').2.2.2.2.1, (f2 b hb').2.2.2.2.2⟩
    · refine thn (T.item (blk X N' scope cl s3.heap.objs.size fp s3 H3) rfl rfl rfl hc i [] s4 (fr σ) H4 _ I4 (stat fr4) st4 go) fun r s5 ⟨u, hr, h5⟩ => ?_
      subst hr
      refine wpAny_bind (thn h5 fun _ s6 ⟨x, H6, I6, r6, y6, st6, fr6⟩ => ?_)
      have I6' := I6.pinned (stat fr6) (T.obj _ _ st6)
      refine wpAny_bind (wpAny_mono (hg s3.heap.objs.size fp s3 H3 _ s6 (fr σ) H6 x u _ I6' r6 (step x H6 y6)) (fun _ s7 ⟨σ7, H7, I7, kp, q7⟩ => ?_) fun _ _ z => z.elim)
      refine wpAny_bind (wpAny_bind (wpAny_mono (he s3.heap.objs.size fp s3 H3 _ s7 σ7 H7 _ I7 q7) (fun v8 s8 ⟨y8, H8, I8, r8, hD, m', hm, w8⟩ => ?_) fun _ _ z => z.elim))
      have ap := mt_append (X := blk X N' scope cl s3.heap.objs.size fp s3 H3) _ s8 σ7 H8 (.ref s2.heap.objs.size) [y8] (.ref s2.heap.objs.size) [v8] (fun _ H9 => W (i + 1) m' (ys ++ [y8]) H9) I8 rfl (.cons r8 .nil) ⟨_, ys, y8, rfl, rfl, hD, hz, w8⟩
      refine wpAny_bind (wpAny_mono ap (fun _ s9 ⟨_, H9, I9, _, w9⟩ => wpAny_pure (wpAny_pure ⟨rfl, m', hm, i + 1, ys ++ [y8], H9, ?_, ?_, ?_, w9⟩)) fun _ _ z => z.elim)
      · exact I9.unpinned.weak (by rw [kp.1]) kp.2
      · exact T.keep _ _ _ st6 fun b hb o e => (I9.pin (b, o) (List.mem_append_right _ (List.mem_append_right _ (mem_pinsAt hb e)))).1
      · intro b hb
        obtain ⟨o, e, d⟩ := T.obj _ _ st6 b hb
        exact (I9.pin (b, o) (List.mem_append_right _ (List.mem_append_right _ (mem_pinsAt hb e)))).2.1
  subst hs3
  exact codeAny_compStart_list loop (T.self X.A 0 _ _ _ stB loop)
end
end L2

set_option linter.all false
set_option maxRecDepth 100000
set_option maxHeartbeats 4000000
namespace L2
open PySem PySem.Spec PyProof.Rows
/-! ### readings by what they give -/
def Gv (t : TE) (σ : St) (H : Hp) (R : V → Hp → Prop) : Prop := ∀ Q : VK, (∀ v H', R v H' → Q v H') → t σ H Q
def GvT (t : TT) (σ : St) (H : Hp) (R : Bool → Hp → Prop) : Prop := ∀ Q : Bool → Hp → Prop, (∀ v H', R v H' → Q v H') → t σ H Q
def GvA (t : TA) (σ : St) (H : Hp) (R : List V → Hp → Prop) : Prop := ∀ Q : List V → Hp → Prop, (∀ v H', R v H' → Q v H') → t σ H Q
/-- one value, the heap as it is -/
def Pu (t : TE) (σ : St) (H : Hp) (v : V) : Prop := ∀ Q : VK, Q v H → t σ H Q
def PuT (t : TT) (σ : St) (H : Hp) (b : Bool) : Prop := ∀ Q : Bool → Hp → Prop, Q b H → t σ H Q
def PuA (t : TA) (σ : St) (H : Hp) (vs : List V) : Prop := ∀ Q : List V → Hp → Prop, Q vs H → t σ H Q
section
variable {σ : St} {H : Hp} {t ta tb tc : TE} {x y z v : V} {i j : Int} {b c : Bool}
theorem Pu.gv' {R : V → Hp → Prop} (h : Pu t σ H v) (r : R v H) : Gv t σ H R := fun Q q => h Q (q v H r)
theorem Gv.imp {R R' : V → Hp → Prop} (h : Gv t σ H R) (f : ∀ v H', R v H' → R' v H') : Gv t σ H R' := fun Q q => h Q fun v H' r => q v H' (f v H' r)
theorem pu_v {k : Nat} (h : σ[k]? = some (some v)) : Pu (tVar k) σ H v := fun _ q => ⟨v, h, q⟩
theorem pu_c : Pu (tC v) σ H v := fun _ q => q
theorem pu_add (ha : Pu ta σ H (.int i)) (hb : Pu tb σ H (.int j)) : Pu (tOp (rI0 fun i j => .int (i + j)) ta tb) σ H (.int (i + j)) := fun _ q => ha _ (hb _ ⟨i, j, rfl, rfl, q⟩)
theorem pu_sub (ha : Pu ta σ H (.int i)) (hb : Pu tb σ H (.int j)) : Pu (tOp (rI0 fun i j => .int (i - j)) ta tb) σ H (.int (i - j)) := fun _ q => ha _ (hb _ ⟨i, j, rfl, rfl, q⟩)
theorem pu_mul (ha : Pu ta σ H (.int i)) (hb : Pu tb σ H (.int j)) (hm : IntMulOk i j) : Pu (tOp (rI IntMulOk fun i j => .int (i * j)) ta tb) σ H (.int (i * j)) := fun _ q => ha _ (hb _ ⟨i, j, rfl, rfl, hm, q⟩)
theorem pu_fdiv (ha : Pu ta σ H (.int i)) (hb : Pu tb σ H (.int j)) (hm : CDivB i j) : Pu (tOp (rI CDivB fun i j => .int (i.fdiv j)) ta tb) σ H (.int (i.fdiv j)) := fun _ q => ha _ (hb _ ⟨i, j, rfl, rfl, hm, q⟩)
theorem pu_mod (ha : Pu ta σ H (.int i)) (hb : Pu tb σ H (.int j)) (hm : j ≠ 0) : Pu (tOp (rI (fun _ j => j ≠ 0) fun i j => .int (i.fmod j)) ta tb) σ H (.int (i.fmod j)) := fun _ q => ha _ (hb _ ⟨i, j, rfl, rfl, hm, q⟩)
theorem pu_pow (ha : Pu ta σ H (.int i)) (hb : Pu tb σ H (.int j)) (hm : CPow i j) : Pu (tOp (rI CPow fun i j => .int (i ^ j.toNat)) ta tb) σ H (.int (i ^ j.toNat)) := fun _ q => ha _ (hb _ ⟨i, j, rfl, rfl, hm, q⟩)
theorem pu_neg (ha : Pu ta σ H (.int i)) : Pu (tUn (rU fun i => .int (-i)) ta) σ H (.int (-i)) := fun _ q => ha _ ⟨i, rfl, q⟩
theorem pu_lt (ha : Pu ta σ H (.int i)) (hb : Pu tb σ H (.int j)) : Pu (tOp (rI0 fun i j => .bl (decide (i < j))) ta tb) σ H (.bl (decide (i < j))) := fun _ q => ha _ (hb _ ⟨i, j, rfl, rfl, q⟩)
theorem pu_gt (ha : Pu ta σ H (.int i)) (hb : Pu tb σ H (.int j)) : Pu (tOp (rI0 fun i j => .bl (decide (j < i))) ta tb) σ H (.bl (decide (j < i))) := fun _ q => ha _ (hb _ ⟨i, j, rfl, rfl, q⟩)
theorem pu_ge (ha : Pu ta σ H (.int i)) (hb : Pu tb σ H (.int j)) : Pu (tOp (rI0 fun i j => .bl (decide (j ≤ i))) ta tb) σ H (.bl (decide (j ≤ i))) := fun _ q => ha _ (hb _ ⟨i, j, rfl, rfl, q⟩)
theorem pu_eqI (ha : Pu ta σ H (.int i)) (hb : Pu tb σ H (.int j)) : Pu (tOp rEq ta tb) σ H (.bl (decide (i = j))) := fun _ q => ha _ (hb _ ⟨rfl, by rw [dec_int, Bool.beq_eq_decide_eq]; exact q⟩)
theorem pu_neI (ha : Pu ta σ H (.int i)) (hb : Pu tb σ H (.int j)) : Pu (tOp rNe ta tb) σ H (.bl (!decide (i = j))) := fun _ q => ha _ (hb _ ⟨rfl, by rw [dec_int, Bool.beq_eq_decide_eq]; exact q⟩)
theorem pu_eqB (ha : Pu ta σ H (.bl b)) (hb : Pu tb σ H (.bl c)) : Pu (tOp rEq ta tb) σ H (.bl (b == c)) := fun _ q => ha _ (hb _ ⟨rfl, by rw [dec_bl]; exact q⟩)
theorem pu_ixT {K : PySem.W.Frag} {p : Addr} {xs : List V} (ha : Pu ta σ H (.ref p)) (hb : Pu tb σ H (.int i)) (h : SqT K H p xs) (e : atI xs i = some v) : Pu (tOp (rIxT K) ta tb) σ H v := fun _ q => ha _ (hb _ ⟨p, xs, i, v, rfl, rfl, h, e, q⟩)
theorem pu_ixL {K : PySem.W.Frag} {p : Addr} {xs : List V} (ha : Pu ta σ H (.ref p)) (hb : Pu tb σ H (.int i)) (h : SqL K H p xs) (e : atI xs i = some v) : Pu (tOp (rIxL K) ta tb) σ H v := fun _ q => ha _ (hb _ ⟨p, xs, i, v, rfl, rfl, h, e, q⟩)
theorem pa_n : PuA tNil σ H [] := fun _ q => q
theorem pa_c {tr : TA} {vs : List V} (ha : Pu ta σ H x) (hr : PuA tr σ H vs) : PuA (tCons ta tr) σ H (x :: vs) := fun _ q => ha _ (hr _ q)
theorem pu_lenL {K : PySem.W.Frag} {p : Addr} {ys : List V} {t : TA} (ha : PuA t σ H [.ref p]) (h : SqL K H p ys) : Pu (tCB (fun xs H Q => ∃ p ys, xs = [.ref p] ∧ (SqL K H p ys ∨ SqT K H p ys) ∧ Q (.int ys.length) H) t) σ H (.int ys.length) := fun _ q => ha _ ⟨p, ys, rfl, .inl h, q⟩
theorem pu_lenT {K : PySem.W.Frag} {p : Addr} {ys : List V} {t : TA} (ha : PuA t σ H [.ref p]) (h : SqT K H p ys) : Pu (tCB (fun xs H Q => ∃ p ys, xs = [.ref p] ∧ (SqL K H p ys ∨ SqT K H p ys) ∧ Q (.int ys.length) H) t) σ H (.int ys.length) := fun _ q => ha _ ⟨p, ys, rfl, .inr h, q⟩
theorem pu_abs {t : TA} (ha : PuA t σ H [.int i]) : Pu (tCB (fun xs H Q => ∃ i, xs = [.int i] ∧ Q (.int (if i < 0 then -i else i)) H) t) σ H (.int (i.natAbs : Int)) := fun _ q => ha _ ⟨i, rfl, by
  rw [show (if i < 0 then -i else i) = (i.natAbs : Int) by split <;> omega]; exact q⟩
theorem pu_isi {K : PySem.W.Frag} {n : String} {u : Value} {t : TA} (ha : PuA t σ H [x, .ty n]) (ty : TyOf K H x u) (e : PySem.W.kitOne K u (.type n) = some b) :
    Pu (tCB (fun xs H Q => ∃ x n t b, xs = [x, .ty n] ∧ TyOf K H x t ∧ PySem.W.kitOne K t (.type n) = some b ∧ Q (.bl b) H) t) σ H (.bl b) := fun _ q => ha _ ⟨x, n, u, b, rfl, ty, e, q⟩
/-! tests -/
theorem pt_t (h : Pu t σ H (.bl b)) : PuT (tTest t) σ H b := fun _ q => h _ ⟨b, rfl, q⟩
theorem pt_b (h : Pu t σ H (.bl b)) : PuT (tB t) σ H b := fun _ q => h _ ⟨b, rfl, q⟩
theorem pt_n {t : TT} (h : PuT t σ H b) : PuT (tNot t) σ H (!b) := fun _ q => h _ q
theorem pt_and {t u : TT} (h : PuT t σ H b) (g : b = true → PuT u σ H c) : PuT (tAnd t u) σ H (b && c) := fun Q q => h _ (by
  cases b with
  | true => rw [if_pos rfl]; exact g rfl Q (by simpa using q)
  | false => rw [if_neg Bool.false_ne_true]; simpa using q)
theorem pt_or {t u : TT} (h : PuT t σ H b) (g : b = false → PuT u σ H c) : PuT (tOr t u) σ H (b || c) := fun Q q => h _ (by
  cases b with
  | false => rw [if_neg Bool.false_ne_true]; exact g rfl Q (by simpa using q)
  | true => rw [if_pos rfl]; simpa using q)
theorem pu_and (h : Pu ta σ H (.bl b)) (g : b = true → Pu tb σ H (.bl c)) : Pu (tAndV ta tb) σ H (.bl (b && c)) := fun Q q => h _ ⟨b, rfl, by
  cases b with
  | true => rw [if_pos rfl]; exact g rfl Q (by simpa using q)
  | false => rw [if_neg Bool.false_ne_true]; simpa using q⟩
theorem pu_or (h : Pu ta σ H (.bl b)) (g : b = false → Pu tb σ H (.bl c)) : Pu (tOrV ta tb) σ H (.bl (b || c)) := fun Q q => h _ ⟨b, rfl, by
  cases b with
  | false => rw [if_neg Bool.false_ne_true]; exact g rfl Q (by simpa using q)
  | true => rw [if_pos rfl]; simpa using q⟩
theorem pu_not (h : Pu ta σ H (.bl b)) : Pu (tNotV ta) σ H (.bl (!b)) := fun _ q => h _ ⟨b, rfl, q⟩
/-! tests with calls that lay things -/
theorem gt_b {R : V → Hp → Prop} (h : Gv t σ H R) (f : ∀ v H', R v H' → ∃ c, v = .bl c) : GvT (tB t) σ H (fun c H' => R (.bl c) H') := fun Q q => h _ fun v H' r => by
  obtain ⟨c, rfl⟩ := f v H' r
  exact ⟨c, rfl, q c H' r⟩
theorem gt_n {t : TT} {R : Bool → Hp → Prop} (h : GvT t σ H R) : GvT (tNot t) σ H (fun c H' => R (!c) H') := fun Q q => h _ fun v H' r => q _ H' (by simpa using r)
theorem gt_or {t u : TT} {R R' : Bool → Hp → Prop} (h : GvT t σ H R) (g : ∀ H', R false H' → GvT u σ H' R') (e : ∀ H', R true H' → R' true H') : GvT (tOr t u) σ H R' := fun Q q => h _ fun v H' r => by
  cases v with
  | false => rw [if_neg Bool.false_ne_true]; exact g H' r Q q
  | true => rw [if_pos rfl]; exact q _ _ (e H' r)
/-! statements -/
variable {te : TE} {D : Ends} {rest u : TS} {k : Nat}
theorem st_set (h : Pu te σ H v) (q : rest D (σ.set k (some v)) H) : tSeq (tAsg te (gName k)) rest D σ H := h _ q
theorem st_setG {R : V → Hp → Prop} (h : Gv te σ H R) (q : ∀ v H', R v H' → rest D (σ.set k (some v)) H') : tSeq (tAsg te (gName k)) rest D σ H := h _ q
theorem st_set1 (h : Pu te σ H v) (q : D.nx (σ.set k (some v)) H) : tAsg te (gName k) D σ H := h _ q
theorem st_setG1 {R : V → Hp → Prop} (h : Gv te σ H R) (q : ∀ v H', R v H' → D.nx (σ.set k (some v)) H') : tAsg te (gName k) D σ H := h _ q
theorem st_ret (h : Pu te σ H v) (q : D.rt v H) : tRet te D σ H := h _ q
theorem st_retG {R : V → Hp → Prop} (h : Gv te σ H R) (q : ∀ v H', R v H' → D.rt v H') : tRet te D σ H := h _ q
theorem st_exprG {R : V → Hp → Prop} (h : Gv te σ H R) (q : ∀ v H', R v H' → rest D σ H') : tSeq (tDrop te) rest D σ H := h _ q
theorem st_exprG1 {R : V → Hp → Prop} (h : Gv te σ H R) (q : ∀ v H', R v H' → D.nx σ H') : tDrop te D σ H := h _ q
theorem st_if {tc : TT} {t u : TS} (h : PuT tc σ H b) (q1 : b = true → t { D with nx := rest D } σ H) (q2 : b = false → u { D with nx := rest D } σ H) : tSeq (tIfS tc t u) rest D σ H := h _ (by
  cases b with
  | true => rw [if_pos rfl]; exact q1 rfl
  | false => rw [if_neg Bool.false_ne_true]; exact q2 rfl)
theorem st_if1 {tc : TT} {t u : TS} (h : PuT tc σ H b) (q1 : b = true → t D σ H) (q2 : b = false → u D σ H) : tIfS tc t u D σ H := h _ (by
  cases b with
  | true => rw [if_pos rfl]; exact q1 rfl
  | false => rw [if_neg Bool.false_ne_true]; exact q2 rfl)
theorem st_ifG {tc : TT} {t u : TS} {R : Bool → Hp → Prop} (h : GvT tc σ H R) (q1 : ∀ H', R true H' → t { D with nx := rest D } σ H') (q2 : ∀ H', R false H' → u { D with nx := rest D } σ H') : tSeq (tIfS tc t u) rest D σ H := h _ fun b H' r => by
  cases b with
  | true => rw [if_pos rfl]; exact q1 H' r
  | false => rw [if_neg Bool.false_ne_true]; exact q2 H' r
theorem st_ifG1 {tc : TT} {t u : TS} {R : Bool → Hp → Prop} (h : GvT tc σ H R) (q1 : ∀ H', R true H' → t D σ H') (q2 : ∀ H', R false H' → u D σ H') : tIfS tc t u D σ H := h _ fun b H' r => by
  cases b with
  | true => rw [if_pos rfl]; exact q1 H' r
  | false => rw [if_neg Bool.false_ne_true]; exact q2 H' r
/-! calls -/
variable {sp : Sp} {E : XK}
theorem pu_call {t : TA} {vs : List V} (h : PuA t σ H vs) (hs : ∀ Q, Q v H → sp (vs ++ []) H Q E) : Pu (tCall sp [] E t) σ H v := fun Q q => h _ (hs Q q)
theorem gv_call {t : TA} {vs : List V} {R : V → Hp → Prop} (h : PuA t σ H vs) (hs : ∀ Q : VK, (∀ v H', R v H' → Q v H') → sp (vs ++ []) H Q E) : Gv (tCall sp [] E t) σ H R := fun Q q => h _ (hs Q q)
theorem gv_callA {t : TA} {R : V → Hp → Prop} {RA : List V → Hp → Prop} (h : GvA t σ H RA) (hs : ∀ vs H1, RA vs H1 → ∀ Q : VK, (∀ v H', R v H' → Q v H') → sp (vs ++ []) H1 Q E) : Gv (tCall sp [] E t) σ H R := fun Q q => h _ fun vs H1 r => hs vs H1 r Q q
theorem ga_nil : GvA tNil σ H (fun vs H' => vs = [] ∧ H' = H) := fun Q q => q _ _ ⟨rfl, rfl⟩
theorem ga_cons {tr : TA} {R1 : V → Hp → Prop} {R2 : V → Hp → List V → Hp → Prop} (h : Gv ta σ H R1) (g : ∀ x H1, R1 x H1 → GvA tr σ H1 (R2 x H1)) :
    GvA (tCons ta tr) σ H (fun vs H' => ∃ x H1 r, vs = x :: r ∧ R1 x H1 ∧ R2 x H1 r H') := fun Q q => h _ fun x H1 r1 => g x H1 r1 _ fun r H' r2 => q _ _ ⟨x, H1, r, rfl, r1, r2⟩
/-! new tuples and lists -/
theorem gv_tup {t : TA} {vs : List V} (h : PuA t σ H vs) (hz : vs.length ≤ sizeLine) : Gv (tTup t) σ H (fun v H' => ∃ p, H p = none ∧ v = .ref p ∧ H' = upd H p (.tup vs)) := fun Q q => h _ ⟨hz, fun p hp => q _ _ ⟨p, hp, rfl, rfl⟩⟩
theorem gv_lst {t : TA} {vs : List V} (h : PuA t σ H vs) (hz : vs.length ≤ sizeLine) : Gv (tLst t) σ H (fun v H' => ∃ p, H p = none ∧ v = .ref p ∧ H' = upd H p (.lst vs)) := fun Q q => h _ ⟨hz, fun p hp => q _ _ ⟨p, hp, rfl, rfl⟩⟩
end
/-! ### frames of the heap -/
theorem Same.upd {H : Hp} {p : Addr} {o : HO} (h : H p = none) : Same H (upd H p o) := fun b u e => by rw [upd_ne (ne_of_none e h)]; exact e
theorem Same.tup {K : PySem.W.Frag} {H H' : Hp} {a : Addr} {xs : List V} (e : Same H H') (h : SqT K H a xs) : SqT K H' a xs := by
  rcases h with (h | ⟨o, h⟩) | h
  · exact .inl (.inl (e _ _ h))
  · exact .inl (.inr ⟨o, e _ _ h⟩)
  · exact .inr h
/-- all is as it was but at one place -/
def SameB (l : Addr) (H H' : Hp) : Prop := ∀ b o, H b = some o → b ≠ l → H' b = some o
theorem Same.b {H H' : Hp} {l : Addr} (e : Same H H') : SameB l H H' := fun b o h _ => e b o h
theorem SameB.refl (l : Addr) (H : Hp) : SameB l H H := fun _ _ h _ => h
theorem SameB.trans {l : Addr} {H H1 H2 : Hp} (a : SameB l H H1) (b : SameB l H1 H2) : SameB l H H2 := fun c o h n => b c o (a c o h n) n
theorem SameB.upd {l : Addr} {H : Hp} {o : HO} : SameB l H (upd H l o) := fun b u e n => by rw [upd_ne n]; exact e
/-! ### defs -/
structure Fn (K : PySem.W.Frag) (mg : Str → Option Value) (x : Str) (st : Stmt) (f : Addr) (fd : FuncData) (ps : List Str) : Prop where
  F : Fun K x x st f fd
  b : Binds K fd ps []
  m : mg x = some (.ref f)
section
variable {X : Cx} {x : Str} {st : Stmt} {f : Addr} {fd : FuncData} {ps : List Str} {sp : Sp} {k j : Nat} {e : Expr} {es : List Expr} {t : TA} {p pos : Pos}
theorem pe_fn (T : Fn X.K X.mg x st f fd ps) (G : FnOk X.prog X.w X.K X.mg X.base CX0 k f fd ps sp) (hr : Room j X.A) (hj : k ≤ j) (ha : PA X (e :: es) t) (hg : Gl X x := by rfl) (hdb : (x == ("__debug__" : Str)) = false := by decide)
    (he : starEach (e :: es) X.env = (false, eval e X.env) :: starEach es X.env := by rfl) (hpl : (backTo pos (starEach es X.env)).any (·.1) = false := by rfl) : PE X (.Call (.Name x p) (e :: es) [] pos) (tCall sp [] E0 t) :=
  pe_call G (hr.mono hj) hg T.m T.F.kp T.b .nil pass0 ha hdb he hpl
/-- a type's name -/
theorem pe_ty {n : Str} {T : String} {pos : Pos} (hm : X.mg n = none) (hv : bootBuiltins n = some (.type T)) (hg : Gl X n := by rfl) (hn : n ≠ "__name__" := by decide) (hd : (n == ("__debug__" : Str)) = false := by decide) : PE X (.Name n pos) (tC (.ty T)) :=
  pe_bltn hg hm hv rfl hn hd
end
/-! ### the forms one uses -/
end L2

set_option linter.all false
namespace L2
/-! ### lowest terms -/
def gS (a b : Int) : Int := if b < 0 then -(Int.gcd a b : Int) else (Int.gcd a b : Int)
theorem fdiv_mul_self {k x : Int} (h : k ≠ 0) : (k * x).fdiv k = x := Int.mul_fdiv_cancel_left x h
theorem gS_ne' {a b : Int} (h : b ≠ 0) : gS a b ≠ 0 := by
  have := Int.gcd_pos_of_ne_zero_right a h
  unfold gS; split <;> omega
/-- what it has -/
theorem low_has {n m : Int} (hm : m ≠ 0) : 0 < m.fdiv (gS n m) ∧ Int.gcd (n.fdiv (gS n m)) (m.fdiv (gS n m)) = 1 ∧ n.fdiv (gS n m) * m = n * m.fdiv (gS n m) := by
  have hp := Int.gcd_pos_of_ne_zero_right n hm
  obtain ⟨x, hx⟩ : gS n m ∣ n := by
    unfold gS; split
    · exact Int.neg_dvd.mpr (Int.gcd_dvd_left n m)
    · exact Int.gcd_dvd_left n m
  obtain ⟨y, hy⟩ : gS n m ∣ m := by
    unfold gS; split
    · exact Int.neg_dvd.mpr (Int.gcd_dvd_right n m)
    · exact Int.gcd_dvd_right n m
  have hg := gS_ne' (a := n) hm
  have e1 : n.fdiv (gS n m) = x := by
    conv => lhs; rw [hx]
    rw [← hx]
    conv => lhs; arg 1; rw [hx]
    exact fdiv_mul_self hg
  have e2 : m.fdiv (gS n m) = y := by
    conv => lhs; arg 1; rw [hy]
    exact fdiv_mul_self hg
  rw [e1, e2]
  have hab : (gS n m).natAbs = Int.gcd n m := by unfold gS; split <;> omega
  have hgcd : Int.gcd x y = 1 := by
    have : Int.gcd n m = Int.gcd (gS n m * x) (gS n m * y) := by rw [← hx, ← hy]
    rw [Int.gcd_mul_left, hab] at this
    have h1 : Int.gcd n m * 1 = Int.gcd n m * Int.gcd x y := by rw [Nat.mul_one]; exact this
    exact (Nat.eq_of_mul_eq_mul_left hp h1).symm
  refine ⟨?_, hgcd, ?_⟩
  · generalize hG : gS n m = G at *
    have hs : (m < 0 → G < 0) ∧ (¬ m < 0 → 0 < G) := by
      constructor
      · intro h
        rw [← hG]; unfold gS; rw [if_pos h]; omega
      · intro h
        rw [← hG]; unfold gS; rw [if_neg h]; omega
    by_cases h : m < 0
    · have h1 := hs.1 h
      by_cases h2 : 0 < y
      · exact h2
      · exfalso
        have := Int.mul_nonneg_of_nonpos_of_nonpos (a := G) (b := y) (by omega) (by omega)
        omega
    · have h1 := hs.2 h
      by_cases h2 : 0 < y
      · exact h2
      · exfalso
        have := Int.mul_nonpos_of_nonneg_of_nonpos (a := G) (b := y) (by omega) (by omega)
        omega
  · generalize hG : gS n m = G at *
    rw [hx, hy]
    grind
end L2

set_option linter.all false
namespace L2
/-! ### points of the plane by three numbers -/
structure Pt3 where
  x : Int
  y : Int
  z : Int
/-- in lowest terms at these homogeneous numbers -/
structure Is3 (A B C : Int) (r : Pt3) : Prop where
  pos : 0 < r.z
  cop : Int.gcd (Int.gcd r.z r.x) r.y = 1
  ex : ∃ d, 0 < d ∧ A = d * r.x ∧ B = d * r.y ∧ C = d * r.z
theorem pt_has {a b c : Int} (hc : 0 < c) : let d : Int := Int.gcd (Int.gcd c a) b; Is3 a b c ⟨a.fdiv d, b.fdiv d, c.fdiv d⟩ ∧ 0 < d := by
  intro d
  have p1 : 0 < Int.gcd c a := Int.gcd_pos_of_ne_zero_left a (by omega)
  have p2 : 0 < Int.gcd ((Int.gcd c a : Nat) : Int) b := Int.gcd_pos_of_ne_zero_left b (by omega)
  have hd : 0 < d := by show 0 < ((Int.gcd ((Int.gcd c a : Nat) : Int) b : Nat) : Int); omega
  have dg : d ∣ ((Int.gcd c a : Nat) : Int) := Int.gcd_dvd_left _ _
  obtain ⟨z, hz⟩ : d ∣ c := Int.dvd_trans dg (Int.gcd_dvd_left c a)
  obtain ⟨x, hx⟩ : d ∣ a := Int.dvd_trans dg (Int.gcd_dvd_right c a)
  obtain ⟨y, hy⟩ : d ∣ b := Int.gcd_dvd_right _ _
  have ex : a.fdiv d = x := by
    conv => lhs; arg 1; rw [hx]
    exact fdiv_mul_self (by omega)
  have ey : b.fdiv d = y := by
    conv => lhs; arg 1; rw [hy]
    exact fdiv_mul_self (by omega)
  have ez : c.fdiv d = z := by
    conv => lhs; arg 1; rw [hz]
    exact fdiv_mul_self (by omega)
  rw [ex, ey, ez]
  refine ⟨⟨?_, ?_, d, hd, hx, hy, hz⟩, hd⟩
  · show 0 < z
    by_cases h : 0 < z
    · exact h
    · have := Int.mul_nonpos_of_nonneg_of_nonpos (a := d) (b := z) (by omega) (by omega)
      omega
  · show Int.gcd ((Int.gcd z x : Nat) : Int) y = 1
    have h1 : Int.gcd c a = d.natAbs * Int.gcd z x := by
      conv => lhs; rw [hz, hx]
      exact Int.gcd_mul_left d z x
    have h2 : d.natAbs = d.natAbs * Int.gcd ((Int.gcd z x : Nat) : Int) y := by
      have h3 : ((Int.gcd c a : Nat) : Int) = d * ((Int.gcd z x : Nat) : Int) := by
        rw [h1]
        have : ((d.natAbs : Nat) : Int) = d := by omega
        rw [Int.natCast_mul, this]
      have h4 : Int.gcd ((Int.gcd c a : Nat) : Int) b = d.natAbs * Int.gcd ((Int.gcd z x : Nat) : Int) y := by
        conv => lhs; rw [h3, hy]
        exact Int.gcd_mul_left d _ y
      exact h4
    have h5 : d.natAbs * 1 = d.natAbs * Int.gcd ((Int.gcd z x : Nat) : Int) y := by rw [Nat.mul_one]; exact h2
    exact (Nat.eq_of_mul_eq_mul_left (by omega) h5).symm
end L2

set_option linter.all false
set_option maxRecDepth 100000
set_option maxHeartbeats 4000000
namespace L2
open PySem PySem.Spec PyProof.Rows
section
variable {X : Cx}
def rGetL (K : PySem.W.Frag) : V → V → Hp → VK → Prop := fun x y H Q => ∃ p xs i v, x = .ref p ∧ y = .int i ∧ 0 ≤ i ∧ SqL K H p xs ∧ atI xs i = some v ∧ Q v H
theorem get_list : PGet X (rGetL X.K) := by
  intro pins s σ H x y v u Q I rx ry h
  obtain ⟨p, xs, i, z, rfl, rfl, h0, hq, he, q⟩ := h
  cases rx
  obtain ⟨t, rfl⟩ := ry
  obtain ⟨its, r, pl, hz⟩ := I.list hq
  obtain ⟨j, h1, h2, h3, h4, h5⟩ := atI_get he
  obtain ⟨w, ew, rw'⟩ := r.get h2
  have hn := line63
  have hj : i.toNat = j := by
    rw [seqIndex_of h0 h5] at h1
    exact Option.some.inj h1
  exact wpAny_getItem_list pl.isList h0 (by omega) (by rw [hj]; simpa using ew) ⟨z, H, I, rw', q⟩
end
section
variable {σ : St} {H : Hp} {D : Ends} {rest : TS} {te to ti : TE} {v : V} {p : Addr} {xs : List V} {k i : Int} {j : Nat}
theorem st_put (h : Pu te σ H v) (ho : Pu to σ H (.ref p)) (hi : Pu ti σ H (.int k)) (hp : H p = some (.lst xs)) (hj : ixN xs.length k = some j) (q : rest D σ (upd H p (.lst (xs.set j v)))) : tSeq (tAsg te (gSub to ti rSetL)) rest D σ H :=
  h _ (ho _ (hi _ ⟨p, xs, k, j, rfl, rfl, hp, hj, q⟩))
theorem st_put1 (h : Pu te σ H v) (ho : Pu to σ H (.ref p)) (hi : Pu ti σ H (.int k)) (hp : H p = some (.lst xs)) (hj : ixN xs.length k = some j) (q : D.nx σ (upd H p (.lst (xs.set j v)))) : tAsg te (gSub to ti rSetL) D σ H :=
  h _ (ho _ (hi _ ⟨p, xs, k, j, rfl, rfl, hp, hj, q⟩))
theorem st_augI {K : PySem.W.Frag} {f : Int → Int → Int} {a b : Int} (ho : Pu to σ H (.ref p)) (hi : Pu ti σ H (.int k)) (h0 : 0 ≤ k) (hp : H p = some (.lst xs)) (ha : atI xs k = some (.int a)) (h : Pu te σ H (.int b)) (hj : ixN xs.length k = some j)
    (q : rest D σ (upd H p (.lst (xs.set j (.int (f a b)))))) : tSeq (tAugS to ti te (rGetL K) (ipI f) rSetL) rest D σ H :=
  ho _ (hi _ ⟨p, xs, k, .int a, rfl, rfl, h0, SqL.of hp, ha, h _ ⟨a, b, rfl, rfl, p, xs, k, j, rfl, rfl, hp, hj, q⟩⟩)
theorem st_while {c : TT} {tb : TS} (Pv : St → Hp → Prop) (μ : St → Hp → Nat) (h0 : Pv σ H)
    (hs : ∀ σ H, Pv σ H → ∃ b, PuT c σ H b ∧ (b = true → tb { D with nx := fun σ' H' => Pv σ' H' ∧ μ σ' H' < μ σ H, ct := fun σ' H' => Pv σ' H' ∧ μ σ' H' < μ σ H, bk := rest D } σ H) ∧ (b = false → rest D σ H)) :
    tSeq (tWhile c tb) rest D σ H := by
  refine ⟨fun m σ H => m = μ σ H ∧ Pv σ H, ⟨_, rfl, h0⟩, ?_⟩
  rintro m σ H ⟨rfl, p⟩
  obtain ⟨b, hb, h1, h2⟩ := hs σ H p
  refine hb _ ?_
  cases b with
  | true => rw [if_pos rfl]; exact ⟨_, fun σ' H' ⟨p', l⟩ => ⟨_, l, rfl, p'⟩, h1 rfl⟩
  | false => rw [if_neg Bool.false_ne_true]; exact h2 rfl
theorem st_rangeG {g : TG} {tb : TS} {ta : TA} {R : List V → Hp → Prop} (ha : GvA ta σ H R)
    (hr : ∀ vs H1, R vs H1 → ∃ n : Int, vs = [.int n] ∧ -(2 ^ 62) ≤ n ∧ n < 2 ^ 62 ∧ ∃ Pv : Nat → St → Hp → Prop, Pv 0 σ H1 ∧
    (∀ (i : Nat) σ H, i < n.toNat → Pv i σ H → g (.int (0 + i)) σ H fun σ2 H2 => tb { D with nx := Pv (i + 1), ct := Pv (i + 1), bk := rest D } σ2 H2) ∧ (∀ σ H, Pv n.toNat σ H → rest D σ H)) :
    tSeq (tFor (iRng1 ta) g tb) rest D σ H :=
  ha _ fun vs H1 r => by
    obtain ⟨n, rfl, h1, h2, Pv, h0, hs, hd⟩ := hr vs H1 r
    exact ⟨n, rfl, h1, h2, for_range (D := { D with nx := rest D }) Pv h0 hs hd⟩
end
/-- a tuple of ints that is tracked -/
def TupT (H : Hp) (v : V) (ns : List Int) : Prop := ∃ a, v = .ref a ∧ H a = some (.tup (ns.map V.int))
theorem TupT.of {H : Hp} {a : Addr} {ns : List Int} (h : H a = some (.tup (ns.map V.int))) : TupT H (.ref a) ns := ⟨a, rfl, h⟩
theorem Bd.small {i : Int} {n : Nat} (h : i.natAbs < 2 ^ 64 := by decide) (e : 64 ≤ n := by decide) : Bd n i := Bd.mono (m := 64) h e
/-! ### no cell in a block -/
theorem noCells {names : List (Str × NameKind)} {cl : List (Str × Addr)} (h : (names.all fun p => p.2 != .cell && p.2 != .free) = true) : ∀ y, (names.lookup y = some .cell ∨ names.lookup y = some .free) → ∃ c, cl.lookup y = some c := by
  intro y hy
  exfalso
  have key : ∀ (l : List (Str × NameKind)) (k : NameKind), l.lookup y = some k → ∃ p ∈ l, p.2 = k := by
    intro l k
    induction l with
    | nil => intro e; cases e
    | cons p r ih =>
      intro e
      rw [List.lookup_cons] at e
      split at e
      · exact ⟨p, List.mem_cons_self, Option.some.inj e⟩
      · obtain ⟨q, hq, eq⟩ := ih e
        exact ⟨q, List.mem_cons_of_mem _ hq, eq⟩
  rw [List.all_eq_true] at h
  rcases hy with e | e
  · obtain ⟨p, hp, eq⟩ := key _ _ e
    have := h p hp
    rw [eq] at this
    exact absurd this (by decide)
  · obtain ⟨p, hp, eq⟩ := key _ _ e
    have := h p hp
    rw [eq] at this
    exact absurd this (by decide)
/-! ### the greatest common divisor -/
theorem gcd_step {x y : Int} (h1 : 0 ≤ x) (h2 : 0 ≤ y) : Int.gcd y (x.fmod y) = Int.gcd x y := by
  rw [Int.fmod_eq_emod_of_nonneg _ h2]
  obtain ⟨m, rfl⟩ := Int.eq_ofNat_of_zero_le h1
  obtain ⟨n, rfl⟩ := Int.eq_ofNat_of_zero_le h2
  rw [← Int.natCast_emod]
  show Nat.gcd n (m % n) = Nat.gcd m n
  rw [Nat.gcd_comm, ← Nat.gcd_rec, Nat.gcd_comm]
theorem fmod_lt {x y : Int} (h2 : 0 < y) : 0 ≤ x.fmod y ∧ x.fmod y < y := by
  rw [Int.fmod_eq_emod_of_nonneg _ (Int.le_of_lt h2)]
  exact ⟨Int.emod_nonneg _ (by omega), Int.emod_lt_of_pos _ h2⟩
theorem gcd_zero (x : Int) (h : 0 ≤ x) : ((Int.gcd x 0 : Nat) : Int) = x := by
  rw [Int.gcd_zero_right]; omega
theorem gcd_pos {a b : Int} (h : b ≠ 0) : 0 < Int.gcd a b := Int.gcd_pos_of_ne_zero_right a h
theorem Bd.gcd_right {n : Nat} {a b : Int} (hb : b ≠ 0) (h : Bd n b) : Bd n (Int.gcd a b : Int) := by
  refine h.le ?_
  exact Nat.le_of_dvd (by omega) (Int.gcd_dvd_natAbs_right a b)
theorem gS_ne {a b : Int} (h : b ≠ 0) : gS a b ≠ 0 := by
  have := gcd_pos (a := a) h
  unfold gS; split <;> omega
theorem gS_bd {n : Nat} {a b : Int} (h : b ≠ 0) (hb : Bd n b) : Bd n (gS a b) := by
  have := Bd.gcd_right (a := a) h hb
  unfold gS; split
  · exact this.neg
  · exact this
/-! ### more statements -/
section
variable {σ : St} {H : Hp} {D : Ends} {rest : TS} {te : TE} {b : Bool} {k : Nat} {v0 : V}
theorem st_ifN {tc : TT} {t : TS} (h : PuT tc σ H b) (q1 : b = true → t { D with nx := rest D } σ H) (q2 : b = false → rest D σ H) : tSeq (tIfS tc t tNext) rest D σ H := st_if h q1 q2
theorem st_ifNG {tc : TT} {t : TS} {R : Bool → Hp → Prop} (h : GvT tc σ H R) (q1 : ∀ H', R true H' → t { D with nx := rest D } σ H') (q2 : ∀ H', R false H' → rest D σ H') : tSeq (tIfS tc t tNext) rest D σ H := st_ifG h q1 q2
theorem st_ifN1 {tc : TT} {t : TS} (h : PuT tc σ H b) (q1 : b = true → t D σ H) (q2 : b = false → D.nx σ H) : tIfS tc t tNext D σ H := st_if1 h q1 q2
theorem st_ifNG1 {tc : TT} {t : TS} {R : Bool → Hp → Prop} (h : GvT tc σ H R) (q1 : ∀ H', R true H' → t D σ H') (q2 : ∀ H', R false H' → D.nx σ H') : tIfS tc t tNext D σ H := st_ifG1 h q1 q2
theorem st_ifSet {tc : TT} {R : V → Hp → Prop} (hc : PuT tc σ H b) (he : b = true → Gv te σ H R) (h0 : σ.set k (some v0) = σ) (r0 : b = false → R v0 H) (q : ∀ v H', R v H' → rest D (σ.set k (some v)) H') :
    tSeq (tIfS tc (tAsg te (gName k)) tNext) rest D σ H := by
  refine st_if hc (fun e => st_setG1 (he e) q) fun e => ?_
  have := q v0 H (r0 e)
  rw [h0] at this
  exact this
end
/-! ### comprehensions by what they give -/
section
variable {σ : St} {H : Hp} {te tl : TE} {fr : St → St} {k : Nat} {K : PySem.W.Frag}
/-- over a tuple, the element's value hangs on the item alone -/
theorem gv_compP {a : Addr} {xs : List V} (f : V → V) (hl : Pu tl σ H (.ref a)) (ha : SqT K H a xs) (hz : xs.length ≤ 1000) (hk : ∀ x, KeepS (fr σ) ((fr σ).set k (some x)))
    (hs : ∀ x ∈ xs, ∀ H', Same H H' → Pu te ((fr σ).set k (some x)) H' (f x)) : Gv (tComp (iTup K tl) fr (gName k) te) σ H (fun v H' => ∃ D, H D = none ∧ v = .ref D ∧ H' = upd H D (.lst (xs.map f))) := by
  intro Q g
  refine hl _ ⟨a, rfl, ⟨xs, ha⟩, fun D hD => ?_⟩
  refine ⟨fun i m ys H' => m = xs.length - i ∧ i ≤ xs.length ∧ ys = (xs.take i).map f ∧ H' = upd H D (.lst ys), ⟨_, rfl, Nat.zero_le _, rfl, rfl⟩, ?_⟩
  rintro i m ys H' ⟨rfl, hi, rfl, rfl⟩
  have s' : Same H (upd H D (.lst ((xs.take i).map f))) := Same.upd hD
  by_cases hlt : i < xs.length
  · refine .inr ⟨⟨xs, xs[i], s'.tup ha, by simp [hlt]⟩, ?_, fun x H3 y => ?_⟩
    · rw [List.length_map, List.length_take]; exact small1000 (by omega)
    obtain ⟨e, y⟩ := y
    subst e
    have ex := y xs (s'.tup ha)
    refine ⟨hk x, hs x (List.mem_of_getElem? ex) _ s' _ ⟨upd_same, xs.length - (i + 1), by omega, rfl, hlt, ?_, ?_⟩⟩
    · rw [List.take_succ, ex]; simp
    · rw [upd_upd]
  · have e : i = xs.length := by omega
    subst e
    refine .inl ⟨⟨xs, s'.tup ha, Nat.le_refl _⟩, g _ _ ⟨D, hD, rfl, by rw [List.take_length]⟩⟩
/-- over a range, by what holds between two turns -/
theorem gv_compR {ta : TA} {n : Int} (Pv : Addr → Nat → List V → Hp → Prop) (ha : PuA ta σ H [.int n]) (h1 : -(2 ^ 62) ≤ n) (h2 : n < 2 ^ 62) (hk : ∀ x, KeepS (fr σ) ((fr σ).set k (some x)))
    (h0 : ∀ D, H D = none → Pv D 0 [] (upd H D (.lst [])))
    (hs : ∀ D (i : Nat) ys H', H D = none → i < n.toNat → Pv D i ys H' → ys.length < sizeLine ∧ Gv te ((fr σ).set k (some (.int (0 + i)))) H' (fun y H4 => H4 D = some (.lst ys) ∧ Pv D (i + 1) (ys ++ [y]) (upd H4 D (.lst (ys ++ [y]))))) :
    Gv (tComp (iRng1 ta) fr (gName k) te) σ H (fun v H' => ∃ D ys, H D = none ∧ v = .ref D ∧ Pv D n.toNat ys H') := by
  intro Q g
  refine ha _ ⟨n, rfl, h1, h2, fun D hD => ?_⟩
  refine ⟨fun i m ys H' => m = n.toNat - i ∧ i ≤ n.toNat ∧ Pv D i ys H', ⟨_, rfl, Nat.zero_le _, h0 D hD⟩, ?_⟩
  rintro i m ys H' ⟨rfl, hi, p⟩
  by_cases hlt : i < n.toNat
  · obtain ⟨z1, z2⟩ := hs D i ys H' hD hlt p
    refine .inr ⟨hlt, z1, fun x H3 y => ?_⟩
    obtain ⟨e, y⟩ := y
    subst e y
    exact ⟨hk _, z2 _ fun v H4 r => ⟨r.1, n.toNat - (i + 1), by omega, rfl, hlt, r.2⟩⟩
  · have e : i = n.toNat := by omega
    subst e
    exact .inl ⟨Nat.le_refl _, g _ _ ⟨D, ys, hD, rfl, p⟩⟩
/-- all(..) of a list of bools, laid by the argument -/
theorem gv_all {R : V → Hp → Prop} (bs : List Bool) (h : Gv te σ H R) (f : ∀ v H', R v H' → ∃ p : Addr, v = .ref p ∧ SqL K H' p (bs.map V.bl)) :
    Gv (tCB (fun xs H Q => ∃ (p : Addr) (bs : List Bool), xs = [.ref p] ∧ SqL K H p (bs.map V.bl) ∧ Q (.bl (bs.all id)) H) (tCons te tNil)) σ H (fun v H' => (∃ p : Addr, R (.ref p) H') ∧ v = .bl (bs.all id)) := by
  intro Q g
  refine h _ fun v H' r => ?_
  obtain ⟨p, rfl, hp⟩ := f v H' r
  exact ⟨p, bs, rfl, hp, g _ _ ⟨⟨p, r⟩, rfl⟩⟩
end
/-! ### tuples in lists -/
/-! ### the hand of a law -/
def HandAt (H : Hp) (hd sc : Addr) : Prop := ∃ (ns : List Int) (i b c p q : Int), H hd = some (.lst [.ref sc, .int i, .int b, .int c, .int p, .int q]) ∧ H sc = some (.lst (ns.map V.int)) ∧ 0 ≤ i
theorem HandAt.ne {H : Hp} {hd sc : Addr} {ns : List Int} {i b c p q : Int} (h1 : H hd = some (.lst [.ref sc, .int i, .int b, .int c, .int p, .int q])) (h2 : H sc = some (.lst (ns.map V.int))) : sc ≠ hd := by
  intro e
  subst e
  rw [h1] at h2
  cases ns with
  | nil => simp at h2
  | cons n r => simp at h2
theorem HandAt.same {H H' : Hp} {hd sc : Addr} (h : HandAt H hd sc) (e : Same H H') : HandAt H' hd sc := by
  obtain ⟨ns, i, b, c, p, q, h1, h2, h0⟩ := h
  exact ⟨ns, i, b, c, p, q, e _ _ h1, e _ _ h2, h0⟩
theorem HandAt.ls {H : Hp} {hd sc : Addr} (h : HandAt H hd sc) : ∃ ys, H hd = some (.lst ys) := by
  obtain ⟨ns, i, b, c, p, q, h1, _⟩ := h
  exact ⟨_, h1⟩
end L2

set_option linter.all false
set_option maxRecDepth 100000
set_option maxHeartbeats 4000000
namespace L2
open PySem PySem.Spec PyProof.Rows
/-- a point laid as a tuple; how long its numbers are -/
def AtP (H : Hp) (v : V) (p : Pt3) : Prop := TupT H v [p.x, p.y, p.z]
/-! ### sums of fractions -/
/-! ### a comprehension that catches one name -/
theorem lookup_one {y y' : Str} {c c' : Addr} (h : List.lookup y' [(y, c)] = some c') : y' = y ∧ c' = c := by
  rw [List.lookup_cons] at h
  split at h
  · rename_i e
    exact ⟨eq_of_beq e, (Option.some.inj h).symm⟩
  · cases h
theorem lookup_mem {names : List (Str × NameKind)} {y : Str} {k : NameKind} (e : names.lookup y = some k) : (y, k) ∈ names := by
  induction names with
  | nil => cases e
  | cons p r ih =>
    rw [List.lookup_cons] at e
    split at e
    · rename_i h
      have h' : y = p.1 := eq_of_beq h
      have e' : p.2 = k := Option.some.inj e
      rw [h', ← e']
      exact List.mem_cons_self
    · exact List.mem_cons_of_mem _ (ih e)
section
variable {X : Cx}
theorem pe_lcompC {x y : Str} {px : Pos} {elt iter : Expr} {scope : Scope} {c : Addr} {pos : Pos} {wi : TI} {te : TE} (j : Nat)
    (hc : X.calm = true) (hi : PI X (.Name x px) iter wi)
    (hg : ∀ C fp s0 H0, PG (blk X [x, y] scope [(y, c)] C fp s0 H0) (.Name x px) (gName 0)) (he : ∀ C fp s0 H0, PE (blk X [x, y] scope [(y, c)] C fp s0 H0) elt te)
    (hclos : closureFor scope X.env = pure [(y, c)]) (hkind : scope.kind = .function) (hnames : ∀ x ∈ scope.names, x.2 = .local → scope.names.lookup x.1 = some .local) (hcell : ∀ y ∈ scope.names, y.2 ≠ .cell)
    (hcy : X.env.cells.lookup y = some c) (hNj : X.N[j]? = some y) (hk : X.env.kindOf y = some .cell) (hrel : (relabel scope X.env).names.lookup y = some .cell)
    (hall : ((relabel scope X.env).names.all fun p => (p.2 != .cell && p.2 != .free) || p.1 == y) = true)
    (hs : ∀ x, foldedSetIterable iter X.env x = pure x := by intro _; rfl) :
    PE X (.ListComp elt [⟨.Name x px, iter, [], 0⟩] scope pos) (tComp wi (fun σ => [none, (σ[j]?).join]) (gName 0) te) := by
  refine pe_lcomp (N' := [x, y]) (cl := [(y, c)]) hc hi hg he hclos hkind hnames hcell (fun y' c' h => ?_) (fun y' h => ?_) (fun _ _ => rfl) (fun σ i y' v e1 e2 => ?_) hs
  · obtain ⟨rfl, rfl⟩ := lookup_one h
    exact hcy
  · rw [List.all_eq_true] at hall
    have key : ∀ k, (k = .cell ∨ k = .free) → (relabel scope X.env).names.lookup y' = some k → y' = y := fun k hk e => by
      have := hall _ (lookup_mem e)
      rcases hk with rfl | rfl
      · simpa using this
      · simpa using this
    have e : y' = y := by
      rcases h with h | h
      · exact key _ (.inl rfl) h
      · exact key _ (.inr rfl) h
    subst e
    exact ⟨c, by rw [List.lookup_cons, beq_self_eq_true]⟩
  · match i, e1, e2 with
    | 0, _, e2 => cases e2
    | 1, e1, e2 =>
      have e1' : y = y' := by simpa using e1
      subst e1'
      have e2' : (σ[j]?).join = some v := by simpa using e2
      refine ⟨j, hNj, ?_, hk, hrel⟩
      cases h : σ[j]? with
      | none => rw [h] at e2'; cases e2'
      | some o => rw [h] at e2'; have : o = some v := e2'; rw [this]
    | i + 2, e1, _ => simp at e1
end
/-! ### lists of points -/
end L2

set_option linter.all false
namespace L2
/-! ### what two sides share -/
def gS3 (a b c : Int) : Int := if c < 0 then -(Int.gcd (Int.gcd a b) c : Int) else (Int.gcd (Int.gcd a b) c : Int)
def pbF (a b c : Int) : Pt3 := ⟨a.fdiv (gS3 a b c), b.fdiv (gS3 a b c), c.fdiv (gS3 a b c)⟩
theorem gS3_ne {a b c : Int} (h : c ≠ 0) : gS3 a b c ≠ 0 := by
  have := Int.gcd_pos_of_ne_zero_right ((Int.gcd a b : Nat) : Int) h
  unfold gS3; split <;> omega
theorem gcd3_rot (x y z : Int) : Int.gcd ((Int.gcd x y : Nat) : Int) z = Int.gcd ((Int.gcd z x : Nat) : Int) y := by
  rw [Int.gcd_comm, ← Int.gcd_assoc]
/-! ### the order of points -/
/-! ### on one line -/
end L2

set_option linter.all false
set_option maxRecDepth 100000
set_option maxHeartbeats 4000000
namespace L2
open PySem PySem.Spec PyProof.Rows
/-! ### tuples of points -/
section
variable {σ : St} {H : Hp} {t : TA} {RA : List V → Hp → Prop} {R : V → Hp → Prop}
theorem gv_tupA (h : GvA t σ H RA) (f : ∀ vs H1, RA vs H1 → vs.length ≤ sizeLine ∧ ∀ p, H1 p = none → R (.ref p) (upd H1 p (.tup vs))) : Gv (tTup t) σ H R := fun Q q => h _ fun vs H1 r => ⟨(f vs H1 r).1, fun p hp => q _ _ ((f vs H1 r).2 p hp)⟩
theorem gv_lstA (h : GvA t σ H RA) (f : ∀ vs H1, RA vs H1 → vs.length ≤ sizeLine ∧ ∀ p, H1 p = none → R (.ref p) (upd H1 p (.lst vs))) : Gv (tLst t) σ H R := fun Q q => h _ fun vs H1 r => ⟨(f vs H1 r).1, fun p hp => q _ _ ((f vs H1 r).2 p hp)⟩
end
theorem pu_cast {t : TE} {σ : St} {H : Hp} {v w : V} (h : Pu t σ H v) (e : v = w) : Pu t σ H w := by rw [← e]; exact h
theorem GvT.imp {t : TT} {σ : St} {H : Hp} {R R' : Bool → Hp → Prop} (h : GvT t σ H R) (f : ∀ v H', R v H' → R' v H') : GvT t σ H R' := fun Q q => h Q fun v H' r => q v H' (f v H' r)
theorem gn_tru {σ : St} {H : Hp} {te : TE} {R : Hp → Prop} (h : Gv te σ H (fun v H' => v = .bl true ∧ R H')) : GvT (tNot (tB te)) σ H (fun b H' => b = false ∧ R H') :=
  fun Q f => h _ fun v H' r => ⟨true, r.1, f _ _ ⟨rfl, r.2⟩⟩
/-! ### sizes of what is told -/
end L2

set_option linter.all false
namespace L2
/-! ### just what is shared -/
end L2

set_option linter.all false
set_option maxRecDepth 100000
set_option maxHeartbeats 4000000
namespace L2
open PySem PySem.Spec PyProof.Rows
/-! ### zip -/
/-! ### the invariant behind a turn of several objects -/
/-! ### zip walked -/
/-! ### zip made -/
end L2

set_option linter.all false
set_option maxRecDepth 100000
set_option maxHeartbeats 4000000
namespace L2
open PySem PySem.Spec PyProof.Rows
/-! ### how far a point lies, how long its bottom is -/
/-! ### more readings -/
/-! ### lists of sides -/
end L2

set_option linter.all false
namespace L2
/-! ### one place, one tuple -/
end L2

set_option linter.all false
namespace L2
end L2

set_option linter.all false
set_option maxRecDepth 100000
set_option maxHeartbeats 4000000
namespace L2
open PySem PySem.Spec PyProof.Rows
/-! ### exceptions: how one lies behind a call -/
section
variable {P : Program} {w : World} {H H' : Hp} {h h' : Heap} {a : Addr} {o : HO}
theorem ObjOk.some (x : ObjOk P w H h a o) : ∃ u, h.get? a = some u := by
  cases o with
  | lst xs => obtain ⟨_, _, _, _, e⟩ := x; exact ⟨_, e⟩
  | tup xs => obtain ⟨_, _, _, o, e, _⟩ := x; exact ⟨_, e⟩
  | dK kvs => obtain ⟨_, _, _, _, o, _, _, e, _⟩ := x; exact ⟨_, e⟩
  | dT kvs => obtain ⟨_, _, _, _, o, _, _, e, _⟩ := x; exact ⟨_, e⟩
  | set S n => obtain ⟨o, _, _, _, e, _⟩ := x; exact ⟨_, e⟩
  | ins C dx fs => obtain ⟨_, _, _, e, _⟩ := x; exact ⟨_, e⟩
  | own y => exact x
  | xd fs => obtain ⟨_, ⟨_, _, _, e, _⟩, _⟩ := x; exact ⟨_, e⟩
  | rng lo hi => obtain ⟨_, _, _, e⟩ := x; exact ⟨_, e⟩
  | frz ob u => obtain ⟨e, _⟩ := x; exact ⟨_, e⟩
  | tbl ps => exact ⟨_, (show h.get? a = some _ from x)⟩
  | met f y => exact ⟨_, (show h.get? a = some _ from x)⟩
  | ext φ => obtain ⟨_, e, _⟩ := x; exact e
end
/-- an object of this class stands there -/
def isOf (a : Addr) (cls : Value) : Heap → Prop := fun h => ∃ o, h.get? a = some o ∧ o.cls = cls
/-- the ground B holds all that was there but the frames; the exception flies over it -/
structure Lay (P : Program) (w : World) (outer : List Env) (H H1 : Hp) (s : Shared) (ea : Addr) (B h : Heap) : Prop where
  hok : HOk P w H1 B
  new : H1 ea = none
  keep : ∀ b o, s.heap.get? b = some o → H b = none → b ∉ frs outer → B.get? b = some o
  slot : ∀ b o, s.heap.get? b = some o → H b = none → b ∈ frs outer → ∃ sl, h.get? b = some { o with slots := sl }
  there : ∀ b o, s.heap.get? b = some o → b ∉ frs outer → ∃ o', B.get? b = some o'
  free : ∀ b o, s.heap.get? b = some o → H b = none → H1 b = none
  tups : ∀ b xs, H b = some (.tup xs) → H1 b = some (.tup xs)
  frzs : ∀ b o u, H b = some (.frz o u) → H1 b = some (.frz o u)
  tbls : ∀ b ps, H b = some (.tbl ps) → ∃ more, H1 b = some (.tbl (ps ++ more))
/-! ### own classes of exceptions: each straight under one that is straight under ValueError -/
def veB : List Value := [.type "ValueError", .type "Exception", .type "BaseException", .type "object"]
def noInit (K : PySem.W.Frag) (N : Addr) : Bool := PySem.W.nsOkIn K N && (match PySem.W.nsIn K N "__init__" with | some none => true | _ => false)
def exK (K : PySem.W.Frag) (C : Addr) : Bool := match K.lookup C with
  | some ⟨.type "type", _, .cls cd, sl⟩ => (match cd.mro, sl.toList with
    | [.ref C', .ref D, .type "ValueError", .type "Exception", .type "BaseException", .type "object"], [_, _, _, _, some (.builtin "ValueError.__new__"), _] => C' == C && !cd.hasDel && noInit K cd.ns && (match K.lookup D with
      | some ⟨_, _, .cls cd2, _⟩ => noInit K cd2.ns
      | _ => false)
    | _, _ => false)
  | _ => false
theorem noInit_ns {K : PySem.W.Frag} {h : Heap} {N : Addr} (X : K.In h) (e : noInit K N = true) : ∃ m, h.Ns N m ∧ m "__init__" = none := by
  unfold noInit at e
  rw [Bool.and_eq_true] at e
  obtain ⟨e1, e2⟩ := e
  refine ⟨h.nsMap N, .of_isNs (PySem.W.isNs_of_in X e1), PySem.W.nsMap_none_of_in X e1 ?_⟩
  split at e2
  · assumption
  · cases e2
theorem exK_obj {K : PySem.W.Frag} {h : Heap} {C : Addr} (X : K.In h) (e : exK K C = true) : ∃ nm qn N bs D hdct sn sub ab col dd k0 k1 k2 k3 k5 mN,
    h.get? C = some (excClassObj nm qn C N bs (.ref D :: veB) hdct sn sub ab col dd k0 k1 k2 k3 k5 "ValueError.__new__") ∧ h.Ns N mN ∧ mN "__init__" = none ∧ OwnTail h veB (.ref D :: veB) := by
  unfold exK at e
  split at e
  · rename_i dd cd sl ho
    split at e
    · rename_i C' D k0 k1 k2 k3 k5 hm hs
      simp only [Bool.and_eq_true, beq_iff_eq, Bool.not_eq_true'] at e
      obtain ⟨⟨⟨rfl, hdel⟩, hN⟩, e4⟩ := e
      obtain ⟨nm, bs, mro, ns, qn, hd, sn, sub, ab, col, del⟩ := cd
      dsimp only at hm hdel hN
      subst hm hdel
      have hsl : sl = #[k0, k1, k2, k3, some (.builtin "ValueError.__new__"), k5] := by
        obtain ⟨l⟩ := sl
        simp only at hs
        rw [hs]
      subst hsl
      obtain ⟨mN, n1, n2⟩ := noInit_ns X hN
      split at e4
      · rename_i hD
        obtain ⟨mD, d1, d2⟩ := noInit_ns X e4
        exact ⟨nm, qn, ns, bs, D, hd, sn, sub, ab, col, dd, k0, k1, k2, k3, k5, mN, X _ _ ho, n1, n2, .own (X _ _ hD) d1 d2 .base⟩
      · cases e4
    · cases e
  · cases e
/-! ### raise -/
/-! ### a def that may raise -/
/-! ### try: name = f(..) except C as n -/
/-- within an except suite -/
abbrev Cx.suite (X : Cx) (ea : Addr) : Cx := { X with A := X.A.mark (some (.ref ea)), calm := false, xe := fun _ _ => False }
section
variable {X : Cx} {pins : List (Addr × Obj)} {σ : St} {H H1 : Hp} {s s' : Shared} {h : Heap} {ea : Addr}
theorem Cx.Ok.suite (ok : X.Ok) (ea : Addr) : (X.suite ea).Ok :=
  ⟨ok.mod, ok.kind, ok.glob, ok.blt, ok.above, ok.inj, ok.has, ok.cab, fun z => (nomatch z), ok.frames, ok.stk, ok.exf, ok.bs, ok.bsz, ok.noex, ok.exfs, ok.funs, ok.frf⟩
theorem Inv.suite (I : Inv X pins σ H s) (ea : Addr) : Inv (X.suite ea) pins σ H s := ⟨I.ok.suite ea, I.os, I.bare, I.base, I.loc, I.cell, I.free, I.freeC, I.pin, I.hok, I.len⟩
theorem Inv.unsuite (ok : X.Ok) (I : Inv (X.suite ea) pins σ H s) : Inv X pins σ H s := ⟨ok, I.os, I.bare, I.base, I.loc, I.cell, I.free, I.freeC, I.pin, I.hok, I.len⟩
/-- the catcher's state with the exception at hand -/
theorem Inv.caught {B : Heap} {cls a0 : Value} (I : Inv X pins σ H s) (L : Lay X.prog X.w X.stack H H1 s ea B s'.heap) (os : s'.os = s.os) (bare : AllBare s'.gens) (up : s'.heap.UpToSlots h) (fl : Heap.FlyingW B X.stack ea cls a0 h) :
    Inv X pins σ (upd H1 ea (.ext (isOf ea cls))) { s' with heap := h } := by
  have hf : ∀ b o, s.heap.get? b = some o → b ∈ frs X.stack → ∀ vs, o.data ≠ .fields vs := fun b o e hb => by
    obtain ⟨_, o', ho', hd'⟩ := I.stack.mem hb
    rw [e] at ho'; cases ho'; exact hd'
  obtain ⟨ob, vs, hob, hoc, hod, _⟩ := fl.first
  have slot : ∀ b o, s.heap.get? b = some o → H b = none → b ∈ frs X.stack → ∃ sl, h.get? b = some { o with slots := sl } := fun b o e n hb => by
    obtain ⟨sl, z⟩ := L.slot b o e n hb
    obtain ⟨sl2, z2⟩ := up b { o with slots := sl } z (hf b o e hb)
    exact ⟨sl2, z2⟩
  have ne : ∀ b o, s.heap.get? b = some o → b ≠ ea := fun b o e z => by
    subst z
    by_cases hb : b ∈ frs X.stack
    · obtain ⟨sl, q⟩ := slot b o e (I.stkFree b hb) hb
      rw [hob] at q
      cases q
      exact hf b o e hb _ hod
    · obtain ⟨o', q⟩ := L.there b o e hb
      rw [fl.2.1] at q; cases q
  have hB : HOk X.prog X.w H1 h := L.hok.kept fun b u q => fl.1 b u q
  refine I.call' (s' := { s' with heap := h }) (ch := []) os ⟨fun b o e n hb _ => fl.1 b o (L.keep b o e n hb), fun b o e n hb _ => slot b o e n hb, fun b o e n _ => by rw [upd_ne (ne b o e)]; exact L.free b o e n, fun b o e _ => ?_, fun b xs e => ?_, fun b o u e => ?_, fun b ps e => ?_⟩ (fun a o e => ?_) bare (fun _ z => nomatch z)
  · by_cases hb : b ∈ frs X.stack
    · obtain ⟨sl, q⟩ := slot b o e (I.stkFree b hb) hb
      exact ⟨_, q⟩
    · obtain ⟨o', q⟩ := L.there b o e hb
      exact ⟨o', fl.1 b o' q⟩
  · have := L.tups b xs e
    rw [upd_ne (ne_of_none this L.new)]; exact this
  · have := L.frzs b o u e
    rw [upd_ne (ne_of_none this L.new)]; exact this
  · obtain ⟨more, q⟩ := L.tbls b ps e
    exact ⟨more, by rw [upd_ne (ne_of_none q L.new)]; exact q⟩
  · by_cases ha : a = ea
    · subst ha
      rw [upd_same] at e
      cases e
      exact ⟨⟨ob, hob, hoc⟩, ⟨ob, hob⟩, fun h1 h2 ⟨o, e1, e2⟩ k => ⟨o, k o e1, e2⟩⟩
    · rw [upd_ne ha] at e
      exact (hB a o e).stay (fun _ _ _ q => q) (fun c q => by rw [upd_ne (ne_of_none q L.new)]; exact q) fun c xs q => by rw [upd_ne (ne_of_none q L.new)]; exact q
/-- a name is gone -/
theorem Inv.unset {j : Nat} {n : Str} {m : Str → Option Value} {v : Option Value} {h' : Heap} {t' : Nat} (I : Inv X pins σ H s) (hN : X.N.Nodup) (hj : X.N[j]? = some n) (hn : s.heap.Ns X.env.locals m)
    (hl : ∀ (i : Nat) (x : Str) (v : V), X.N[i]? = some x → σ[i]? = some (some v) → Vis X.env.scope x → ∃ u, RelV v u ∧ Look X.env s.heap m x u)
    (hn' : h'.Ns X.env.locals (fun x => if x = n then v else m x)) (hs : Heap.SameBut X.env.locals s.heap h') : Inv X pins (σ.set j none) H { s with heap := h', toks := t' } := by
  have cne := I.cne
  obtain ⟨oL, _, _, hoL, _⟩ := id hn
  refine ⟨I.ok, I.os, I.bare, ⟨fun b o e n hb hx => ?_, fun b o e n hb hx => ?_, I.base.free, fun b o e hx => ?_, I.base.tups, I.base.frzs, I.base.tbls⟩, ⟨_, hn', fun i y v' e1 e2 e3 => ?_⟩, fun y c e => ?_, I.free, I.freeC, fun p hp => ?_, fun b ob e => ?_, by simpa using I.len⟩
  · exact (hs.2 b (Nat.ne_of_lt (Nat.lt_of_lt_of_le (Heap.lt_size e) I.ok.above))).trans (I.base.keep b o e n hb hx)
  · obtain ⟨sl, e1⟩ := I.base.slot b o e n hb hx
    exact ⟨sl, (hs.2 b (Nat.ne_of_lt (Nat.lt_of_lt_of_le (Heap.lt_size e) I.ok.above))).trans e1⟩
  · obtain ⟨o', e1⟩ := I.base.there b o e hx
    exact ⟨o', (hs.2 b (Nat.ne_of_lt (Nat.lt_of_lt_of_le (Heap.lt_size e) I.ok.above))).trans e1⟩
  · by_cases hi : i = j
    · subst hi
      by_cases hlt : i < σ.length
      · rw [List.getElem?_set_self hlt] at e2; cases e2
      · rw [List.getElem?_eq_none (by simpa using hlt)] at e2; cases e2
    · rw [List.getElem?_set_ne (Ne.symm hi)] at e2
      obtain ⟨u', r', q⟩ := hl i y v' e1 e2 e3
      refine ⟨u', r', ?_⟩
      rcases q with ⟨k, e⟩ | ⟨k, c, e, z⟩
      · refine .inl ⟨k, ?_⟩
        have : y ≠ n := fun e => hi (nodup_ix hN e1 (e ▸ hj))
        simp [this, e]
      · exact .inr ⟨k, c, e, z.sameBut hs (cne y c e)⟩
  · obtain ⟨w', z⟩ := I.cell y c e
    exact ⟨w', z.sameBut hs (cne y c e)⟩
  · obtain ⟨e, n, ne, nf, d⟩ := I.pin p hp
    exact ⟨(hs.2 p.1 ne).trans e, n, ne, nf, d⟩
  · refine (I.hok b ob e).stay (fun c w' hc q => (hs.2 c ?_).trans q) (fun _ q => q) fun _ _ q => q
    rintro rfl
    have hfree := I.free
    rcases hc with rfl | hc
    · rw [hfree] at e; cases e
    · rw [hfree] at hc; cases hc
end
/-! ### isinstance of an exception -/
/-- what the fragment must tell of an exception's class -/
def exC (K : PySem.W.Frag) (C : Addr) : Bool := PySem.W.findIn K (.ref C) "__getattribute__" == some (some (.builtin "BaseException.__getattribute__")) && PySem.W.findIn K (.ref C) "__getattr__" == some none && PySem.W.mroIn K C (.type "BaseException") == some true && PySem.W.hasDictIn K C && PySem.W.findIn K (.ref C) "__class__" == some (some (.builtin "object.__class__")) &&
  PySem.W.specialIn K (.builtin "object.__class__") "__get__" == some (some (.builtin "getset_descriptor.__get__")) && PySem.W.takesIn K (.builtin "object.__class__") == some true && PySem.W.mroIn K C (.type "object") == some true
section
open PySem.W PySem.Calls Builtin Builtin.ObjectAttr Builtin.Getset_descriptor
variable {K : PySem.W.Frag} {x C : Addr}
theorem looks_findD {M : Model} {h : Heap} {nm : Str} {a g : Value} (X : K.In h) (ha : PySem.W.findIn K (.ref C) nm = some (some a)) (hg : PySem.W.specialIn K a "__get__" = some (some g)) (ht : PySem.W.takesIn K a = some true) :
    Looks M h (find (.ref x) (.ref C) nm) (.bind g a) := by
  have l1 := PySem.W.looks_findIn (M := M) X ha
  have l2 : Looks M h (getOf (some a)) (some g) := PySem.W.looks_specialIn X hg
  have l3 := PySem.W.looks_takesIn (M := M) X ht
  exact l1.andThen (l2.andThen ((show Looks M h (dataDescriptor? (some a) (some g)) (some (g, a)) from l3.andThen .now).andThen (Looks.tag .now)))
theorem isOf_ty {M : Model} {h : Heap} (p : isOf x (.ref C) h) : Looks M h (typeOf (.ref x)) (.ref C) := by
  obtain ⟨o, h1, h2⟩ := p
  exact h2 ▸ (Looks.ld h1).andThen .now
section
open PySem.W
variable {prog : Program} {w : World} {A : Around} {E : Value → Shared → Prop} {s : Shared}
theorem xc_get {tp : Value} {R : Result → Shared → Prop} (X : K.In s.heap) (p : isOf x (.ref C) s.heap) (hm : mroIn K C (.type "object") = some true) (h : R (.ok (.ret (.ref C))) s) :
    codeAny (model prog w) A (.call (.builtin "getset_descriptor.__get__") ⟨[.builtin "object.__class__", .ref x, tp], []⟩) R s := by
  obtain ⟨hh, g, dr, t, os⟩ := s
  have L0 := isOf_ty (M := model prog w) p
  have L1 := looks_mroIn (M := model prog w) X hm
  refine codeAny_call_builtin KF.slot_gs.plain KF.entry_gs (KF.slot_gs.check _ _ _ _ _ _ _ _ KF.type_class (KF.args_gs _ _ _) ?_)
  unfold Builtin.«getset_descriptor.__get__» descrGet
  rw [dga_obj]
  refine wpAny_bind (wpAny_pure ?_)
  unfold descrGetter descrCheckInstance descrNameAndClass isInstance
  simp only [KF.owner_class]
  repeat lk
  refine ⟨Code.quiet_builtin _ (by decide +kernel), codeAny_builtin KF.entry_class ?_⟩
  unfold Builtin.«object.__class__» shownTypeOf
  repeat lk
  exact h
theorem xc_call {tk : Tok} {R : Result → Shared → Prop} (X : K.In s.heap) (p : isOf x (.ref C) s.heap) (hb : mroIn K C (.type "BaseException") = some true)
    (ha : findIn K (.ref C) "__class__" = some (some (.builtin "object.__class__"))) (hn : specialIn K (.builtin "object.__class__") "__get__" = some (some (.builtin "getset_descriptor.__get__"))) (ht : takesIn K (.builtin "object.__class__") = some true) (hm : mroIn K C (.type "object") = some true)
    (h : R (.ok (.ret (.ref C))) s) : codeAny (model prog w) A (.call (.builtin "BaseException.__getattribute__") ⟨[.ref x, .str "__class__" tk], []⟩) R s := by
  obtain ⟨hh, g, d, t, os⟩ := s
  have L0 := isOf_ty (M := model prog w) p
  have LB := looks_mroIn (M := model prog w) X hb
  have LF : Looks (model prog w) hh (find (.ref x) (.ref C) "__class__") (.bind (.builtin "getset_descriptor.__get__") (.builtin "object.__class__")) := looks_findD X ha hn ht
  have hk : builtinKind "BaseException.__getattribute__" = some .slot := by decide +kernel
  have hsp : splitId "BaseException.__getattribute__" = some ("BaseException", "__getattribute__") := by decide +kernel
  have har := F.args_bexc_ga (.ref x) (.str "__class__" tk)
  refine codeAny_call_builtin PySem.F.excAttr_ValueError.ga.plain F.entry_bexc_ga ?_
  simp only [checkBuiltinCall, hk, hsp]
  refine wpAny_bind ?_
  unfold isInstance
  repeat lk
  refine (show wpAny _ _ (PySem.run (.call (.builtin "getset_descriptor.__get__") ⟨[.builtin "object.__class__", .ref x, .ref C], []⟩)) _ _ _ from wpAny_run (xc_get (s := ⟨hh, g, d, t, os⟩) X p hm ?_))
  exact wpAny_pure (wpAny_pure h)
theorem xc_attr {Q : Option Value → Shared → Prop} (X : K.In s.heap) (p : isOf x (.ref C) s.heap) (hga : findIn K (.ref C) "__getattribute__" = some (some (.builtin "BaseException.__getattribute__"))) (hk : findIn K (.ref C) "__getattr__" = some none) (hb : mroIn K C (.type "BaseException") = some true)
    (ha : findIn K (.ref C) "__class__" = some (some (.builtin "object.__class__"))) (hn : specialIn K (.builtin "object.__class__") "__get__" = some (some (.builtin "getset_descriptor.__get__"))) (ht : takesIn K (.builtin "object.__class__") = some true) (hm : mroIn K C (.type "object") = some true)
    (q : Q (some (.ref C)) { s with toks := s.toks + 1 }) : wpAny (model prog w) A (getAttr? (.ref x) "__class__") Q E s := by
  obtain ⟨hh, g, d, t, os⟩ := s
  have L0 := isOf_ty (M := model prog w) p
  have L1 := looks_findIn (M := model prog w) X hga
  have L2 := looks_findIn (M := model prog w) X hk
  have fb := PySem.F.excAttr_ValueError.ga.bind (.ref x)
  unfold getAttr? getAttrBy? getAttrBy
  refine wpAny_bind (wpAny_mkText (wpAny_bind (wpAny_attempt (wpAny_holding (wpAny_bind (L0.at (wpAny_bind (L1.at ?_))))))))
  show wpAny _ _ (getAttrByItsOwn (.ref x) _ (.ref C) (.builtin "BaseException.__getattribute__") false false) _ _ _
  unfold getAttrByItsOwn
  refine wpAny_bind (m := hookBefore (.ref C)) (L2.at ?_)
  refine wpAny_bind (wpAny_attempt (wpAny_holding (wpAny_bind (wpAny_of_eq fb (wpAny_call (xc_call (s := ⟨hh, g, d, t + 1, os⟩) X p hb ha hn ht hm ?_))))))
  exact handed_on rfl (wpAny_pure q)
theorem kitx_exc (hx : exC K C = true) : KitX K (.ref x) (.ref C) (isOf x (.ref C)) := by
  unfold exC at hx
  simp only [Bool.and_eq_true, beq_iff_eq] at hx
  obtain ⟨⟨⟨⟨⟨⟨⟨hga, hk⟩, hb⟩, hdct⟩, ha⟩, hn⟩, ht⟩, hm⟩ := hx
  obtain ⟨cdD, hcD, _⟩ := any_some hdct
  unfold clsIn at hcD
  split at hcD
  · rename_i c' d' cd' sl' ho
    refine ⟨fun M h _ p => isOf_ty p, fun M h X _ A' Q' E' s' k q => ?_, fun h tp dd its n sl X htp => Bool.eq_false_iff.mpr fun q => ?_, fun X p k => xc_attr X p hga hk hb ha hn ht hm k⟩
    · unfold isType loadHead
      exact wpAny_bind (wpAny_loadPart (k _ _ (X _ _ ho)) (wpAny_pure q))
    · have e : C = tp := Value.ref.inj (beq_iff_eq.mp q)
      subst e
      have z := (X _ _ ho).symm.trans htp
      cases z
  · cases hcD
end
end
/-- a class as isinstance takes it -/
inductive IsCls : V → Value → Prop where
  | ref (a : Addr) : IsCls (.ref a) (.ref a)
  | ty (n : String) : IsCls (.ty n) (.type n)
section
variable {X : Cx}
theorem pe_cls {n : Str} {C : Addr} {pos : Pos} (hm : X.mg n = some (.ref C)) (hg : Gl X n := by rfl) (hd : (n == ("__debug__" : Str)) = false := by decide) : PE X (.Name n pos) (tC (.ref C)) :=
  fun pins s σ H Q I h => ld_glob I hg hm ⟨.ref C, H, I, rfl, h⟩ hd
end
end L2

set_option linter.all false
set_option maxRecDepth 100000
set_option maxHeartbeats 4000000
namespace L2
open PySem PySem.Spec PyProof.Rows
/-! ### dict(a list of pairs), the keys tuples -/
end L2

set_option linter.all false
set_option maxRecDepth 100000
set_option maxHeartbeats 4000000
namespace L2
open PySem PySem.Spec PyProof.Rows
end L2

set_option linter.all false
set_option maxRecDepth 100000
set_option maxHeartbeats 4000000
namespace L2
open PySem PySem.Spec PyProof.Rows
end L2

set_option linter.all false
set_option maxRecDepth 100000
set_option maxHeartbeats 4000000
namespace L2
open PySem PySem.Spec PyProof.Rows
/-! ### the keys walked -/
end L2

set_option linter.all false
set_option maxRecDepth 100000
set_option maxHeartbeats 4000000
namespace L2
open PySem PySem.Spec PyProof.Rows
end L2

set_option linter.all false
set_option maxRecDepth 100000
set_option maxHeartbeats 4000000
namespace L2
open PySem PySem.Spec PyProof.Rows
end L2

set_option linter.all false
set_option maxRecDepth 100000
set_option maxHeartbeats 4000000
namespace L2
open PySem PySem.Spec PyProof.Rows
end L2

set_option linter.all false
set_option maxRecDepth 100000
set_option maxHeartbeats 4000000
namespace L2
open PySem PySem.Spec PyProof.Rows PySem.W
end L2

set_option linter.all false
set_option maxRecDepth 100000
set_option maxHeartbeats 4000000
namespace L2
open PySem PySem.Spec PyProof.Rows
end L2

set_option linter.all false
set_option maxRecDepth 100000
set_option maxHeartbeats 4000000
namespace L2
open PySem PySem.Spec PyProof.Rows
theorem same_updNew {H H' : Hp} {r : Addr} {o : HO} (s : Same H H') (h : H r = none) : Same H (L2.upd H' r o) := fun b u e => by
  rw [upd_ne (ne_of_none e h)]
  exact s b u e
end L2

set_option linter.all false
set_option maxRecDepth 100000
set_option maxHeartbeats 4000000
namespace L2
open PySem PySem.Spec PyProof.Rows
end L2

set_option linter.all false
set_option maxRecDepth 100000
set_option maxHeartbeats 4000000
namespace L2
open PySem PySem.Spec PyProof.Rows
end L2

set_option linter.all false
set_option maxRecDepth 100000
set_option maxHeartbeats 4000000
namespace L2
open PySem PySem.Spec PyProof.Rows
end L2

set_option linter.all false
set_option maxRecDepth 100000
set_option maxHeartbeats 4000000
namespace L2
open PySem PySem.Spec PyProof.Rows
/-! ### rows of points, laid -/
end L2

set_option linter.all false
set_option maxRecDepth 100000
set_option maxHeartbeats 4000000
namespace L2
open PySem PySem.Spec PyProof.Rows
theorem same_none {H H' : Hp} {p : Addr} (s : Same H H') (h : H' p = none) : H p = none := by
  cases e : H p with
  | none => rfl
  | some o => rw [s _ _ e] at h; cases h
end L2

set_option linter.all false
set_option maxRecDepth 100000
set_option maxHeartbeats 4000000
namespace L2
open PySem PySem.Spec PyProof.Rows
section
variable {X : Cx}
/-- a comprehension's reading, whatever is done with its list at the end (a name may take it before the block is left) -/
def CompR (X : Cx) (e : Expr) (scope : Scope) (iter : Expr) (t : TE) : Prop := ∀ (pins : List (Addr × Obj)) (s : Shared) (σ : St) (H : Hp) (Q : VK) (use : Option (Value → Sem Unit)) (Q' : Value → Shared → Prop) (fpos : Pos), Inv X pins σ H s → t σ H Q →
  (∀ D C m s5 H4 r, s5.heap.Ns C m → FpOk X pins H4 C → Inv X pins σ H4 s5 → Q (.ref D) H4 → compPost (model X.prog X.w) X.A X.xe use Q' (.ref D) C (.ok r) s5) →
  wpAny (model X.prog X.w) X.A (comprehension e scope X.env fpos (newList []) false (eval iter X.env) use) Q' X.xe s
theorem cr_lcomp {tg elt iter : Expr} {scope : Scope} {cl : List (Str × Addr)} {pos : Pos} {N' : List Str} {wi : TI} {fr : St → St} {g : TG} {te : TE}
    (hc : X.calm = true) (hi : PI X tg iter wi)
    (hg : ∀ C fp s0 H0, PG (blk X N' scope cl C fp s0 H0) tg g) (he : ∀ C fp s0 H0, PE (blk X N' scope cl C fp s0 H0) elt te)
    (hclos : closureFor scope X.env = pure cl) (hkind : scope.kind = .function) (hnames : ∀ x ∈ scope.names, x.2 = .local → scope.names.lookup x.1 = some .local) (hcell : ∀ y ∈ scope.names, y.2 ≠ .cell)
    (hcl : ∀ y c, cl.lookup y = some c → X.env.cells.lookup y = some c) (hhas : ∀ y, ((relabel scope X.env).names.lookup y = some .cell ∨ (relabel scope X.env).names.lookup y = some .free) → ∃ c, cl.lookup y = some c)
    (hfl : ∀ σ : St, σ.length = X.N.length → (fr σ).length = N'.length)
    (hfr : ∀ (σ : St) (i : Nat) (y : Str) (v : V), N'[i]? = some y → (fr σ)[i]? = some (some v) → ∃ j : Nat, X.N[j]? = some y ∧ σ[j]? = some (some v) ∧ X.env.kindOf y = some .cell ∧ (relabel scope X.env).names.lookup y = some .cell)
    (hs : ∀ x, foldedSetIterable iter X.env x = pure x := by intro _; rfl) :
    CompR X (.ListComp elt [⟨tg, iter, [], 0⟩] scope pos) scope iter (tComp wi fr g te) := by
  intro pins s σ H Q use Q' fpos I h fin
  refine wpAny_comprehension_free (use := use) rfl hs hclos hkind hnames ?_
  refine thn (hi pins s σ H _ I h) fun v s1 h1 => thn h1 fun itv s2 h2 => ?_
  obtain ⟨it, fp, tn, J, H2, rfl, I2, T, st2, f2, q2⟩ := h2
  have D0 : H2 s2.heap.objs.size = none := I2.hok.fresh (Nat.le_refl _)
  obtain ⟨W, ⟨m0, w0⟩, turn⟩ := q2 _ D0
  refine wpAny_newObj_type (wpAny_newFunctionEnv hcell (by intro y hy; simp at hy) (fun h₁ hns₁ hsb₁ => ?_) hkind)
  dsimp only at hns₁ hsb₁ ⊢
  have I3 : Inv X pins σ (upd H2 s2.heap.objs.size (.lst [])) { s2 with heap := s2.heap.push { cls := .type "list", dict := none, data := .seq ([] : List Value).toArray } } :=
    I2.laid (t' := s2.toks) (fun b u e => Heap.get?_push_of_some _ e) (Nat.le_refl _) ⟨Nat.zero_le _, [], _, .nil, Heap.get?_push_size _ rfl⟩
  generalize hH3 : upd H2 s2.heap.objs.size (.lst []) = H3 at I3 w0
  generalize hs3 : ({ s2 with heap := s2.heap.push { cls := .type "list", dict := none, data := .seq ([] : List Value).toArray } } : Shared) = s3 at I3
  have eh : s3.heap = s2.heap.push { cls := .type "list", dict := none, data := .seq ([] : List Value).toArray } := by rw [← hs3]
  have fl : ∀ b ∈ fp, b < s2.heap.objs.size := fun b hb => by
    obtain ⟨o, e, _⟩ := T.obj 0 _ st2 b hb
    exact Heap.lt_size e
  have fn : ∀ b ∈ fp, H3 b = none := fun b hb => by
    rw [← hH3, upd_ne (Nat.ne_of_lt (fl b hb))]; exact (f2 b hb).1
  have f3 : ∀ b ∈ fp, FpOk X pins H3 b := fun b hb => ⟨fn b hb, (f2 b hb).2⟩
  have old : ∀ b u, s3.heap.get? b = some u → h₁.get? b = some u := fun b u e => by
    refine hsb₁.extBut b u ?_ (Heap.get?_push_of_some _ (by rw [← eh]; exact e))
    have := Heap.lt_size e
    rw [eh] at this
    exact Nat.ne_of_lt this
  have up : ∀ b u, s2.heap.get? b = some u → s3.heap.get? b = some u := fun b u e => by rw [eh]; exact Heap.get?_push_of_some _ e
  have ok := blk_ok (N' := N') (scope := scope) (cl := cl) (fp := fp) I3 hkind hcl hhas f3 fun b hb => by rw [eh, Heap.size_push]; exact Nat.lt_succ_of_lt (fl b hb)
  rw [← eh] at hns₁ ⊢
  have IB : Inv (blk X N' scope cl s3.heap.objs.size fp s3 H3) [] (fr σ) H3 { s3 with heap := h₁, toks := s2.toks + ([] : List (Str × Value)).length } := by
    refine ⟨ok, rfl, I3.bare, Un.kept old, ⟨_, hns₁, fun i y v e1 e2 e3 => ?_⟩, fun x c e => ?_, I3.hok.fresh (Nat.le_refl _), fun x c e => I3.freeC x c (hcl x c e), fun p hp => by simp [blk] at hp, I3.hok.kept old, hfl σ I3.len⟩
    · obtain ⟨j, n1, n2, n3, n4⟩ := hfr σ i y v e1 e2
      obtain ⟨m, _, hl⟩ := I3.loc
      obtain ⟨u, r, l⟩ := hl j y v n1 n2 (.inr (.inl n3))
      refine ⟨u, r, .inr ⟨.inl n4, ?_⟩⟩
      rcases l with ⟨k, _⟩ | ⟨_, c, e, ic⟩
      · rw [n3] at k; cases k
      · obtain ⟨c', e'⟩ := hhas y (.inl n4)
        have e'' := hcl y c' e'
        rw [e] at e''; cases e''
        obtain ⟨o, ho, hd⟩ := ic
        exact ⟨c, e', o, old c o ho, hd⟩
    · obtain ⟨v, o, ho, hd⟩ := I3.cell x c (hcl x c e)
      exact ⟨v, o, old c o ho, hd⟩
  have stB : tn 0 h₁ := T.keep _ _ _ st2 fun b hb o e => old b o (up b o e)
  have D2 : s2.heap.objs.size < s3.heap.objs.size := by rw [eh, Heap.size_push]; exact Nat.lt_succ_self _
  have stat : ∀ {H' : Hp}, (∀ b ∈ fp, H' b = none) → ∀ b ∈ fp, FpOk (blk X N' scope cl s3.heap.objs.size fp s3 H3) [] H' b := fun hn b hb =>
    ⟨hn b hb, Nat.ne_of_lt (Nat.lt_trans (fl b hb) D2), ok.exfs b hb, .inl hb, fun x c e => (ok.exf b hb).2 x c e, fun p hp => by simp [blk] at hp⟩
  have loop : codeAny (model X.prog X.w) X.A (.compLoop (.ListComp elt [⟨tg, iter, [], 0⟩] scope pos) 0 (.ref it) (.ref s2.heap.objs.size) (compEnvC scope cl s3.heap.objs.size X.env))
      (compPost (model X.prog X.w) X.A X.xe use Q' (.ref s2.heap.objs.size) s3.heap.objs.size) { s3 with heap := h₁, toks := s2.toks + ([] : List (Str × Value)).length } := by
    refine codeAny_loop rfl (fun n s' => ∃ i ys H', Inv (blk X N' scope cl s3.heap.objs.size fp s3 H3) [] (fr σ) H' s' ∧ tn i s'.heap ∧ (∀ b ∈ fp, H' b = none) ∧ W i n ys H') ?_ m0 ⟨0, [], H3, IB, stB, fn, w0⟩
    rintro n s4 ⟨i, ys, H4, I4, st4, fr4, w4⟩
    show wpAny _ _ ((compTurn (.ListComp elt [⟨tg, iter, [], 0⟩] scope pos) 0 (.ref it) (.ref s2.heap.objs.size) (compEnvC scope cl s3.heap.objs.size X.env)).onRaise (fun x => do noteFrame x (compEnvC scope cl s3.heap.objs.size X.env); theTreesLotGoes x)) _ _ s4
    refine wpAny_noted ?_
    rw [compTurn_list1]
    refine wpAny_bind (wpAny_standAt (wpAny_bind ?_))
    rcases turn i n ys H4 w4 with ⟨stop, qn⟩ | ⟨go, hz, step⟩
    · refine thn (T.done (blk X N' scope cl s3.heap.objs.size fp s3 H3) rfl rfl rfl hc i [] s4 (fr σ) H4 _ I4 (stat fr4) st4 stop) fun r s5 ⟨hr, I5⟩ => ?_
      subst hr
      refine wpAny_pure ?_
      obtain ⟨m, hn, _⟩ := I5.loc
      have hlt : ∀ b u, s3.heap.get? b = some u → b ≠ s3.heap.objs.size := fun b u e => Nat.ne_of_lt (Heap.lt_size e)
      have B := I5.base
      refine fin _ _ m s5 H4 _ hn (I3.fpOk (Nat.le_refl _) I5.free) ?_ qn
      refine I3.call' (s' := s5) (ch := fp) I5.os ⟨fun b o e n1 n2 n3 => B.keep b o e n1 n2 n3, fun b o e n1 n2 n3 => B.slot b o e n1 n2 n3, B.free, fun b o e n1 => B.there b o e n1, B.tups, B.frzs, B.tbls⟩ (fun a o e => I5.hok a o e) I5.bare (fun b hb' => ?_)
      exact ⟨(f2 b hb').2.2.2.1, (f2 b hb').2.1, (f2 b hb').2.2.2.2.1, (f2 b hb').2.2.2.2.2⟩
    · refine thn (T.item (blk X N' scope cl s3.heap.objs.size fp s3 H3) rfl rfl rfl hc i [] s4 (fr σ) H4 _ I4 (stat fr4) st4 go) fun r s5 ⟨u, hr, h5⟩ => ?_
      subst hr
      refine wpAny_bind (thn h5 fun _ s6 ⟨x, H6, I6, r6, y6, st6, fr6⟩ => ?_)
      have I6' := I6.pinned (stat fr6) (T.obj _ _ st6)
      refine wpAny_bind (wpAny_mono (hg s3.heap.objs.size fp s3 H3 _ s6 (fr σ) H6 x u _ I6' r6 (step x H6 y6)) (fun _ s7 ⟨σ7, H7, I7, kp, q7⟩ => ?_) fun _ _ z => z.elim)
      refine wpAny_bind (wpAny_bind (wpAny_mono (he s3.heap.objs.size fp s3 H3 _ s7 σ7 H7 _ I7 q7) (fun v8 s8 ⟨y8, H8, I8, r8, hD, m', hm, w8⟩ => ?_) fun _ _ z => z.elim))
      have ap := mt_append (X := blk X N' scope cl s3.heap.objs.size fp s3 H3) _ s8 σ7 H8 (.ref s2.heap.objs.size) [y8] (.ref s2.heap.objs.size) [v8] (fun _ H9 => W (i + 1) m' (ys ++ [y8]) H9) I8 rfl (.cons r8 .nil) ⟨_, ys, y8, rfl, rfl, hD, hz, w8⟩
      refine wpAny_bind (wpAny_mono ap (fun _ s9 ⟨_, H9, I9, _, w9⟩ => wpAny_pure (wpAny_pure ⟨rfl, m', hm, i + 1, ys ++ [y8], H9, ?_, ?_, ?_, w9⟩)) fun _ _ z => z.elim)
      · exact I9.unpinned.weak (by rw [kp.1]) kp.2
      · exact T.keep _ _ _ st6 fun b hb o e => (I9.pin (b, o) (List.mem_append_right _ (List.mem_append_right _ (mem_pinsAt hb e)))).1
      · intro b hb
        obtain ⟨o, e, d⟩ := T.obj _ _ st6 b hb
        exact (I9.pin (b, o) (List.mem_append_right _ (List.mem_append_right _ (mem_pinsAt hb e)))).2.1
  subst hs3
  exact codeAny_compStart_list loop (T.self X.A 0 _ _ _ stB loop)
/-- a name takes a comprehension's list -/
theorem ps_setC {i : Nat} {y : Str} {py spos : Pos} {elt iter tg : Expr} {scope : Scope} {pos : Pos} {t : TE} (hN : X.N.Nodup) (hi : X.N[i]? = some y) (hx : X.env.scope.names.lookup y = some .local) (h : CompR X (.ListComp elt [⟨tg, iter, [], 0⟩] scope pos) scope iter t)
    (hsw : swapsWith (.ListComp elt [⟨tg, iter, [], 0⟩] scope pos) (some (.Name y py)) spos.line X.env = pure true := by rfl) : PS X (.Assign [.Name y py] (.ListComp elt [⟨tg, iter, [], 0⟩] scope pos) spos) (tAsg t (gName i)) := by
  intro pins s σ H D I hw
  rw [exec_Assign_Name_used _ _ _ _ hsw]
  refine wpAny_bind (wpAny_standAt (wpAny_bind ?_))
  show wpAny _ _ (do let _ ← comprehension (.ListComp elt [⟨tg, iter, [], 0⟩] scope pos) scope X.env _ (newList []) false (eval iter X.env) (some (assign (.Name y py) X.env))) _ _ _
  refine wpAny_bind (wpAny_mono (h pins { s with } σ H _ (some (assign (.Name y py) X.env)) (fun _ s' => SP X pins D .next s') _ I hw fun D' C m s5 H4 r hn f I5 q => ?_) (fun _ s' hq => wpAny_pure (wpAny_pure hq)) fun _ _ e => e)
  refine wpAny_assign_Name (store_ok2 I5 hN hi (Or.inl hx) (v := .ref D') rfl (fun s6 I6 ⟨a, sb, ha⟩ => ?_) (.inr hx))
  have na : C ≠ a := by
    rcases ha with e | e
    · rw [e]; exact f.2.1
    · exact Ne.symm (f.2.2.2.2.1 y a e)
  refine ⟨m, hn.sameBut sb na, fun h' sb' => ⟨_, H4, ?_, q⟩⟩
  exact I6.turned (t' := s6.toks) (fun b o hb e => sb'.extBut b o hb e) f.1 f.2.1 f.2.2.2.1 f.2.2.2.2.1 f.2.2.2.2.2
theorem cr_lcompC {x y : Str} {px : Pos} {elt iter : Expr} {scope : Scope} {c : Addr} {pos : Pos} {wi : TI} {te : TE} (j : Nat)
    (hc : X.calm = true) (hi : PI X (.Name x px) iter wi)
    (hg : ∀ C fp s0 H0, PG (blk X [x, y] scope [(y, c)] C fp s0 H0) (.Name x px) (gName 0)) (he : ∀ C fp s0 H0, PE (blk X [x, y] scope [(y, c)] C fp s0 H0) elt te)
    (hclos : closureFor scope X.env = pure [(y, c)]) (hkind : scope.kind = .function) (hnames : ∀ x ∈ scope.names, x.2 = .local → scope.names.lookup x.1 = some .local) (hcell : ∀ y ∈ scope.names, y.2 ≠ .cell)
    (hcy : X.env.cells.lookup y = some c) (hNj : X.N[j]? = some y) (hk : X.env.kindOf y = some .cell) (hrel : (relabel scope X.env).names.lookup y = some .cell)
    (hall : ((relabel scope X.env).names.all fun p => (p.2 != .cell && p.2 != .free) || p.1 == y) = true)
    (hs : ∀ x, foldedSetIterable iter X.env x = pure x := by intro _; rfl) :
    CompR X (.ListComp elt [⟨.Name x px, iter, [], 0⟩] scope pos) scope iter (tComp wi (fun σ => [none, (σ[j]?).join]) (gName 0) te) := by
  refine cr_lcomp (N' := [x, y]) (cl := [(y, c)]) hc hi hg he hclos hkind hnames hcell (fun y' c' h => ?_) (fun y' h => ?_) (fun _ _ => rfl) (fun σ i y' v e1 e2 => ?_) hs
  · obtain ⟨rfl, rfl⟩ := lookup_one h
    exact hcy
  · rw [List.all_eq_true] at hall
    have key : ∀ k, (k = .cell ∨ k = .free) → (relabel scope X.env).names.lookup y' = some k → y' = y := fun k hk e => by
      have := hall _ (lookup_mem e)
      rcases hk with rfl | rfl
      · simpa using this
      · simpa using this
    have e : y' = y := by
      rcases h with h | h
      · exact key _ (.inl rfl) h
      · exact key _ (.inr rfl) h
    subst e
    exact ⟨c, by rw [List.lookup_cons, beq_self_eq_true]⟩
  · match i, e1, e2 with
    | 0, _, e2 => cases e2
    | 1, e1, e2 =>
      have e1' : y = y' := by simpa using e1
      subst e1'
      have e2' : (σ[j]?).join = some v := by simpa using e2
      refine ⟨j, hNj, ?_, hk, hrel⟩
      cases h : σ[j]? with
      | none => rw [h] at e2'; cases e2'
      | some o => rw [h] at e2'; have : o = some v := e2'; rw [this]
    | i + 2, e1, _ => simp at e1
end
end L2

set_option linter.all false
set_option maxRecDepth 100000
set_option maxHeartbeats 4000000
namespace L2
open PySem PySem.Spec PyProof.Rows
end L2

set_option linter.all false
set_option maxRecDepth 100000
set_option maxHeartbeats 4000000
namespace L2
open PySem PySem.Spec PyProof.Rows
theorem Same.rfl' {H : Hp} : Same H H := fun _ _ e => e
end L2

set_option linter.all false
set_option maxRecDepth 100000
set_option maxHeartbeats 4000000
namespace L2
open PySem PySem.Spec PyProof.Rows
/-! ### {} -/
/-! ### try: f(..) except C as n: .., with return -/
/-! ### isinstance of an exception with a tuple of classes -/
end L2

set_option linter.all false
set_option maxRecDepth 100000
set_option maxHeartbeats 4000000
namespace L2
open PySem PySem.Spec PyProof.Rows
section
variable {es : List Expr} {env : Env}
theorem star_tup {a b c} : starEach (.Tuple a b c :: es) env = (false, eval (.Tuple a b c) env) :: starEach es env := rfl
theorem star_lst {a b} : starEach (.List a b :: es) env = (false, eval (.List a b) env) :: starEach es env := rfl
theorem star_con {a b c} : starEach (.Constant a b c :: es) env = (false, eval (.Constant a b c) env) :: starEach es env := rfl
theorem star_un {a b c} : starEach (.UnaryOp a b c :: es) env = (false, eval (.UnaryOp a b c) env) :: starEach es env := rfl
theorem star_bin {a b c d} : starEach (.BinOp a b c d :: es) env = (false, eval (.BinOp a b c d) env) :: starEach es env := rfl
theorem star_name {a b} : starEach (.Name a b :: es) env = (false, eval (.Name a b) env) :: starEach es env := rfl
theorem star_call {a b c d} : starEach (.Call a b c d :: es) env = (false, eval (.Call a b c d) env) :: starEach es env := rfl
theorem star_sub {a b c} : starEach (.Subscript a b c :: es) env = (false, eval (.Subscript a b c) env) :: starEach es env := rfl
theorem star_attr {a b c} : starEach (.Attribute a b c :: es) env = (false, eval (.Attribute a b c) env) :: starEach es env := rfl
theorem star_bool {a b c} : starEach (.BoolOp a b c :: es) env = (false, eval (.BoolOp a b c) env) :: starEach es env := rfl
theorem star_lc {a b c d} : starEach (.ListComp a b c d :: es) env = (false, eval (.ListComp a b c d) env) :: starEach es env := rfl
end
end L2

set_option linter.all false
set_option maxHeartbeats 4000000
namespace L2
/-! ### rounds -/

/-! ### sums round a ring -/
end L2

set_option linter.all false
set_option maxRecDepth 100000
set_option maxHeartbeats 4000000
namespace L2
open PySem PySem.Spec PyProof.Rows

/-! ### sides, laid -/
end L2

set_option linter.all false
set_option maxRecDepth 100000
set_option maxHeartbeats 4000000
namespace L2
open PySem PySem.Spec PyProof.Rows
end L2

set_option linter.all false
set_option maxRecDepth 100000
set_option maxHeartbeats 4000000
namespace L2
open PySem PySem.Spec PyProof.Rows
/-! ### plain data, laid -/
/-! ### [::-1] -/
end L2

set_option linter.all false
set_option maxHeartbeats 4000000
namespace L2
/-! ### points that are drawn, one after another -/
end L2

set_option linter.all false
set_option maxRecDepth 100000
set_option maxHeartbeats 4000000
namespace L2
open PySem PySem.Spec PyProof.Rows
end L2

set_option linter.all false
set_option maxRecDepth 100000
set_option maxHeartbeats 4000000
namespace L2
open PySem PySem.Spec PyProof.Rows
end L2

set_option linter.all false
set_option maxRecDepth 100000
set_option maxHeartbeats 4000000
namespace L2
open PySem PySem.Spec PyProof.Rows
end L2

set_option linter.all false
set_option maxRecDepth 100000
namespace L2
open PySem PySem.StrLaws PySem.Builtin PySem.Builtin.Str
/-! ### texts: what is joined is split again -/
end L2

set_option linter.all false
set_option maxRecDepth 100000
namespace L2
open PySem PySem.StrLaws PySem.Builtin PySem.Builtin.Str PySem.NumText PyProof.Rows
/-! ### numbers as texts -/
end L2

set_option linter.all false
set_option maxRecDepth 100000
namespace L2
open PySem PySem.Spec PyProof.Rows
/-! texts: methods, slices, f-strings, iteration -/
end L2

set_option linter.all false
set_option maxRecDepth 100000
namespace L2
open PySem PySem.Spec PyProof.Rows
section
variable {σ : St} {H : Hp} {te tl : TE} {fr : St → St} {k : Nat} {K : PySem.W.Frag}
/-- over a list, the value hangs on the item alone, the turns lay things -/
theorem gv_compLF {a : Addr} {xs : List V} (f : V → V) (hl : Pu tl σ H (.ref a)) (ha : H a = some (.lst xs)) (hz : xs.length ≤ 1000) (hk : ∀ x, KeepS (fr σ) ((fr σ).set k (some x)))
    (hs : ∀ x ∈ xs, ∀ H', Same H H' → Gv te ((fr σ).set k (some x)) H' (fun v H'' => v = f x ∧ Same H' H'')) : Gv (tComp (iList K tl) fr (gName k) te) σ H (fun v H' => Same H H' ∧ ∃ D, v = .ref D ∧ H D = none ∧ H' D = some (.lst (xs.map f))) := by
  intro Q g
  refine hl _ ⟨a, rfl, ⟨xs, SqL.of ha⟩, fun D hD => ?_⟩
  refine ⟨fun i m ys H' => m = xs.length - i ∧ i ≤ xs.length ∧ ys = (xs.take i).map f ∧ Same H H' ∧ H' D = some (.lst ys), ⟨_, rfl, Nat.zero_le _, rfl, Same.upd hD, upd_same⟩, ?_⟩
  rintro i m ys H' ⟨rfl, hi, rfl, s', hD'⟩
  by_cases hlt : i < xs.length
  · refine .inr ⟨⟨xs, xs[i], SqL.of (s' _ _ ha), by simp [hlt]⟩, ?_, fun x H3 y => ?_⟩
    · rw [List.length_map, List.length_take]; exact small1000 (by omega)
    obtain ⟨e, y⟩ := y
    subst e
    have ex := y xs (SqL.of (s' _ _ ha))
    refine ⟨hk x, hs x (List.mem_of_getElem? ex) _ s' _ fun v H4 ⟨e4, s4⟩ => ⟨s4 _ _ hD', xs.length - (i + 1), by omega, rfl, hlt, ?_, ?_, upd_same⟩⟩
    · rw [List.take_succ, ex, e4]; simp
    · exact same_updNew (s'.trans s4) hD
  · have e : i = xs.length := by omega
    subst e
    exact .inl ⟨⟨xs, SqL.of (s' _ _ ha), Nat.le_refl _⟩, g _ _ ⟨s', D, rfl, hD, by rw [hD', List.take_length]⟩⟩
end
end L2

set_option linter.all false
set_option maxRecDepth 100000
set_option maxHeartbeats 4000000
namespace L2
open PySem PySem.Spec PyProof.Rows
/-! ### a comprehension whose element may raise -/
/-! the heap behind a raise within a comprehension -/
end L2

set_option linter.all false
set_option maxRecDepth 100000
namespace L2
open PySem PySem.StrLaws PySem.Builtin PySem.Builtin.Str PyProof.Rows
/-! ### fractions, points and their texts -/
/-! ### readings of texts -/
/-! ### reading a number -/
/-! ### numbers too long to be read -/
end L2

set_option linter.all false
set_option maxRecDepth 100000
set_option maxHeartbeats 4000000
namespace L2
open PySem PySem.Spec PyProof.Rows
/-! ### a written dict of the top: words to objects of the top -/
/-! ### zip of two tuples, of the call or of the top -/
end L2

set_option linter.all false
set_option maxRecDepth 100000
set_option maxHeartbeats 4000000
namespace L2
open PySem PySem.Spec PyProof.Rows
/-! ### a loop whose body may raise -/
end L2

set_option linter.all false
set_option maxRecDepth 100000
set_option maxHeartbeats 4000000
namespace L2
open PySem PySem.Spec PyProof.Rows
/-! ### things of any kind -/
inductive D where
  | non | bl (b : Bool) | int (n : Int) | str (s : Str) | tup (ds : List D) | lst (ds : List D) | dct
mutual
/-- v is that thing; lists are not hd -/
inductive DAt (hd : Addr) (H : Hp) : V → D → Prop
  | non : DAt hd H .non .non
  | bl (b : Bool) : DAt hd H (.bl b) (.bl b)
  | int (n : Int) : DAt hd H (.int n) (.int n)
  | str (s : Str) (h : (∀ c ∈ s.cps.toList, c < 128) ∧ s.length ≤ 1000) : DAt hd H (.str s) (.str s)
  | tup {a : Addr} {xs : List V} {ds : List D} (h : H a = some (.tup xs)) (t : DsAt hd H xs ds) : DAt hd H (.ref a) (.tup ds)
  | lst {a : Addr} {xs : List V} {ds : List D} (h : H a = some (.lst xs)) (n : a ≠ hd) (t : DsAt hd H xs ds) : DAt hd H (.ref a) (.lst ds)
  | dct {a : Addr} {kvs : List (Key × V)} (h : H a = some (.dK kvs)) : DAt hd H (.ref a) .dct
inductive DsAt (hd : Addr) (H : Hp) : List V → List D → Prop
  | nil : DsAt hd H [] []
  | cons {x : V} {d : D} {xs : List V} {ds : List D} (h : DAt hd H x d) (t : DsAt hd H xs ds) : DsAt hd H (x :: xs) (d :: ds)
end
section
variable {hd : Addr} {H H' : Hp}
mutual
theorem DAt.same (s : Same H H') : ∀ {v : V} {d : D}, DAt hd H v d → DAt hd H' v d
  | _, _, .non => .non
  | _, _, .bl b => .bl b
  | _, _, .int n => .int n
  | _, _, .str x h => .str x h
  | _, _, .tup h t => .tup (s _ _ h) (DsAt.same s t)
  | _, _, .lst h n t => .lst (s _ _ h) n (DsAt.same s t)
  | _, _, .dct h => .dct (s _ _ h)
theorem DsAt.same (s : Same H H') : ∀ {vs : List V} {ds : List D}, DsAt hd H vs ds → DsAt hd H' vs ds
  | _, _, .nil => .nil
  | _, _, .cons h t => .cons (DAt.same s h) (DsAt.same s t)
end
mutual
theorem DAt.but {ys : List V} (hy : H hd = some (.lst ys)) (s : SameB hd H H') : ∀ {v : V} {d : D}, DAt hd H v d → DAt hd H' v d
  | _, _, .non => .non
  | _, _, .bl b => .bl b
  | _, _, .int n => .int n
  | _, _, .str x h => .str x h
  | _, _, .tup h t => .tup (s _ _ h fun e => by rw [e, hy] at h; cases h) (DsAt.but hy s t)
  | _, _, .lst h n t => .lst (s _ _ h n) n (DsAt.but hy s t)
  | _, _, .dct h => .dct (s _ _ h fun e => by rw [e, hy] at h; cases h)
theorem DsAt.but {ys : List V} (hy : H hd = some (.lst ys)) (s : SameB hd H H') : ∀ {vs : List V} {ds : List D}, DsAt hd H vs ds → DsAt hd H' vs ds
  | _, _, .nil => .nil
  | _, _, .cons h t => .cons (DAt.but hy s h) (DsAt.but hy s t)
end
theorem DsAt.len : ∀ {vs : List V} {ds : List D}, DsAt hd H vs ds → vs.length = ds.length
  | _, _, .nil => rfl
  | _, _, .cons _ t => congrArg (· + 1) t.len
theorem DsAt.get : ∀ {vs : List V} {ds : List D} {i : Nat} {v : V}, DsAt hd H vs ds → vs[i]? = some v → ∃ d, ds[i]? = some d ∧ DAt hd H v d
  | _, _, 0, _, .cons h _, e => by cases e; exact ⟨_, rfl, h⟩
  | _, _, i + 1, _, .cons _ t, e => t.get (i := i) e
theorem DsAt.get' : ∀ {vs : List V} {ds : List D} {i : Nat} {d : D}, DsAt hd H vs ds → ds[i]? = some d → ∃ v, vs[i]? = some v ∧ DAt hd H v d
  | _, _, 0, _, .cons h _, e => by cases e; exact ⟨_, rfl, h⟩
  | _, _, i + 1, _, .cons _ t, e => t.get' (i := i) e
end
/-! ### kinds -/
theorem kit_not {K : PySem.W.Frag} {a b : String} (hn : (Value.type a == Value.type b) = false) (hm : (if PySem.W.kitMeta b = true then (PySem.fastBuiltinMro a).map (·.contains (Value.type b)) else none) = some false) : PySem.W.kitOne K (.type a) (.type b) = some false := by
  unfold PySem.W.kitOne
  rw [if_neg (by rw [hn]; decide)]
  exact hm
/-! ### text times number -/
end L2

set_option linter.all false
set_option maxRecDepth 100000
set_option maxHeartbeats 4000000
namespace L2
open PySem PySem.StrLaws PySem.Builtin PySem.Builtin.Str PyProof.Rows
/-! ### shapes -/
/-! ### which things are wishes -/
/-! ### wishes -/
namespace Wi
end Wi
/-! ### texts -/
/-! ### the written dict of the shapes -/
end L2

set_option linter.all false
set_option maxRecDepth 100000
set_option maxHeartbeats 4000000
namespace L2
open PySem PySem.Spec PyProof.Rows
def D.ty : D → String
  | .non => "NoneType"
  | .bl _ => "bool"
  | .int _ => "int"
  | .str _ => "str"
  | .tup _ => "tuple"
  | .lst _ => "list"
  | .dct => "dict"
theorem DAt.ty {K : PySem.W.Frag} {hd : Addr} {H : Hp} {v : V} {d : D} (h : DAt hd H v d) : TyOf K H v (.type d.ty) := by
  cases h with
  | non => exact .non
  | bl b => exact .bl b
  | int n => exact .int n
  | str s _ => exact .str s
  | tup h _ => exact .tup h
  | lst h _ _ => exact .lst h
  | dct h => exact .dK h
def D.isTup : D → Bool
  | .tup _ => true
  | _ => false
def D.isInt : D → Bool
  | .int _ => true
  | .bl _ => true
  | _ => false
def D.isBool : D → Bool
  | .bl _ => true
  | _ => false
theorem kit_bool_int {K : PySem.W.Frag} : PySem.W.kitOne K (.type "bool") (.type "int") = some true := by
  unfold PySem.W.kitOne
  rw [if_neg (by decide)]
  show (if PySem.W.kitMeta "int" = true then (PySem.fastBuiltinMro "bool").map (·.contains (Value.type "int")) else none) = some true
  decide +kernel
theorem kd_tup {K : PySem.W.Frag} (d : D) : PySem.W.kitOne K (.type d.ty) (.type "tuple") = some d.isTup := by
  cases d with
  | tup s => exact kit_same
  | non => exact kit_not (a := "NoneType") (b := "tuple") (by decide) (by decide +kernel)
  | bl _ => exact kit_not (a := "bool") (b := "tuple") (by decide) (by decide +kernel)
  | int _ => exact kit_not (a := "int") (b := "tuple") (by decide) (by decide +kernel)
  | str _ => exact kit_not (a := "str") (b := "tuple") (by decide) (by decide +kernel)
  | lst _ => exact kit_not (a := "list") (b := "tuple") (by decide) (by decide +kernel)
  | dct => exact kit_not (a := "dict") (b := "tuple") (by decide) (by decide +kernel)
theorem kd_int {K : PySem.W.Frag} (d : D) : PySem.W.kitOne K (.type d.ty) (.type "int") = some d.isInt := by
  cases d with
  | int s => exact kit_same
  | bl b => exact kit_bool_int
  | non => exact kit_not (a := "NoneType") (b := "int") (by decide) (by decide +kernel)
  | str _ => exact kit_not (a := "str") (b := "int") (by decide) (by decide +kernel)
  | tup _ => exact kit_not (a := "tuple") (b := "int") (by decide) (by decide +kernel)
  | lst _ => exact kit_not (a := "list") (b := "int") (by decide) (by decide +kernel)
  | dct => exact kit_not (a := "dict") (b := "int") (by decide) (by decide +kernel)
theorem kd_bool {K : PySem.W.Frag} (d : D) : PySem.W.kitOne K (.type d.ty) (.type "bool") = some d.isBool := by
  cases d with
  | bl s => exact kit_same
  | non => exact kit_not (a := "NoneType") (b := "bool") (by decide) (by decide +kernel)
  | int _ => exact kit_not (a := "int") (b := "bool") (by decide) (by decide +kernel)
  | str _ => exact kit_not (a := "str") (b := "bool") (by decide) (by decide +kernel)
  | tup _ => exact kit_not (a := "tuple") (b := "bool") (by decide) (by decide +kernel)
  | lst _ => exact kit_not (a := "list") (b := "bool") (by decide) (by decide +kernel)
  | dct => exact kit_not (a := "dict") (b := "bool") (by decide) (by decide +kernel)
end L2

set_option linter.all false
set_option maxRecDepth 100000
set_option maxHeartbeats 4000000
namespace L2
open PySem PySem.StrLaws PySem.Builtin PySem.Builtin.Str PyProof.Rows
/-! ### wishes by their parts -/
namespace Pa
end Pa
namespace Wi
end Wi
/-! ### wishes laid hold no lists -/
end L2

set_option linter.all false
set_option maxRecDepth 100000
set_option maxHeartbeats 4000000
namespace L2
open PySem PySem.Spec PyProof.Rows
end L2

set_option linter.all false
set_option maxRecDepth 100000
set_option maxHeartbeats 4000000
namespace L2
open PySem PySem.Spec PyProof.Rows
/-! ### lists of pairs as tables -/
section
variable {κ : Type} [DecidableEq κ]
/-- in its place, or at the end -/
def putK (kvs : List (κ × V)) (k : κ) (v : V) : List (κ × V) :=
  if (kvs.any fun kv => decide (kv.1 = k)) = true then kvs.map (fun kv => if kv.1 = k then (kv.1, v) else kv) else kvs ++ [(k, v)]

theorem length_putK (kvs : List (κ × V)) (k : κ) (v : V) : (putK kvs k v).length ≤ kvs.length + 1 := by
  unfold putK
  split
  · rw [List.length_map]; omega
  · rw [List.length_append, List.length_cons, List.length_nil]; omega


theorem KV.any {kvs : List (κ × V)} {vs : List (κ × Value)} (r : KV kvs vs) (k : κ) : (kvs.any fun kv => decide (kv.1 = k)) = vs.any fun kv => decide (kv.1 = k) := by
  unfold KV at r
  induction r with
  | nil => rfl
  | cons h t ih => rw [List.any_cons, List.any_cons, ih, h.1]
theorem KV.repl {kvs : List (κ × V)} {vs : List (κ × Value)} (r : KV kvs vs) (k : κ) {y : V} {u : Value} (ry : RelV y u) :
    KV (kvs.map fun kv => if kv.1 = k then (kv.1, y) else kv) (vs.map fun kv => if kv.1 = k then (kv.1, u) else kv) := by
  unfold KV at r ⊢
  induction r with
  | nil => exact .nil
  | @cons p q ps qs h t ih =>
    rw [List.map_cons, List.map_cons]
    refine .cons ?_ ih
    obtain ⟨h1, h2⟩ := h
    by_cases e : p.1 = k
    · rw [if_pos e, if_pos (h1.symm.trans e)]; exact ⟨h1, ry⟩
    · rw [if_neg e, if_neg (fun z => e (h1.trans z))]; exact ⟨h1, h2⟩
theorem KV.put {kvs : List (κ × V)} {vs : List (κ × Value)} (r : KV kvs vs) (k : κ) {y : V} {u : Value} (ry : RelV y u) : KV (putK kvs k y) (stored vs k u) := by
  unfold putK stored
  rw [r.any k]
  by_cases e : (vs.any fun kv => decide (kv.1 = k)) = true
  · rw [if_pos e, if_pos e]; exact r.repl k ry
  · rw [if_neg e, if_neg e]; exact Paired.snoc r ⟨rfl, ry⟩
end


/-! ### a tracked dict, its keys ints and texts or tuples of these -/
theorem kV_is {P : Program} {w : World} {k : Key} {u : Value} (r : RelV (kV k) u) : (mixKind P w).is k u = true := by
  cases k with
  | inl i => obtain ⟨t, e⟩ := (show ∃ t, u = Value.int i t from r); subst e; exact mixKind_int P w i t
  | inr x => obtain ⟨t, e⟩ := (show ∃ t, u = Value.str x t from r); subst e; exact mixKind_str P w x t


section
variable {P : Program} {w : World} {H : Hp} {h : Heap} {a : Addr}
theorem rd_of {u : HO} (ok : HOk P w H h) (e : Rd H a u) : ObjOk P w H h a u := e.ok ok
theorem dk_rd {kvs : List (Key × V)} (ok : HOk P w H h) (e : Rd H a (.dK kvs)) : kvs.length ≤ sizeLine ∧ (a == sysModules) = false ∧ ∃ vs, KV kvs vs ∧ h.DictOf (mixKind P w) a vs :=
  show ObjOk P w H h a (.dK kvs) from rd_of ok e
theorem dk_of {kvs : List (Key × V)} (ok : HOk P w H h) (e : H a = some (.dK kvs)) : kvs.length ≤ sizeLine ∧ (a == sysModules) = false ∧ ∃ vs, KV kvs vs ∧ h.DictOf (mixKind P w) a vs := dk_rd ok (.inl e)
end



section
variable {X : Cx} {pins : List (Addr × Obj)} {σ : St} {H : Hp} {s : Shared} {a : Addr} {y v : V} {u r : Value} {o : Option V} {A : Around} {E : Value → Shared → Prop}

theorem Inv.big (I : Inv X pins σ H s) : sysModules < s.heap.objs.size := by
  have h : mainGlobals < s.heap.objs.size := (I.mod.glob.keeps I.bk).lt
  exact Nat.lt_trans (by decide) h

/-- a dict's object is replaced -/
theorem d_write {h' : Heap} {t' : Nat} {ob : HO} (I : Inv X pins σ H s) (mu : Mut (H a)) (hs : Heap.SameBut a s.heap h') (he : ∃ q, h'.get? a = some q) (new : ObjOk X.prog X.w (upd H a ob) h' a ob) :
    Inv X pins σ (upd H a ob) { s with heap := h', toks := t' } :=
  I.write (x := a) (e := a) mu (.inl rfl) (fun b q hb z => (hs.2 b hb).trans z) he new
theorem dk_new {P : Program} {w : World} {H' : Hp} {h' : Heap} {kvs : List (Key × V)} {vs : List (Key × Value)} (z : kvs.length ≤ sizeLine) (hd : (a == sysModules) = false) (rel : KV kvs vs) (dd : h'.DictOf (mixKind P w) a vs) :
    ObjOk P w H' h' a (.dK kvs) := ⟨z, hd, vs, rel, dd⟩
end



/-! ### readings and rules -/





/-! ### displays -/
theorem dk_empty {P : Program} {w : World} {H : Hp} (h : Heap) (hb : sysModules < h.objs.size) : ObjOk P w H (h.push { cls := .type "dict", data := .dict #[] }) h.objs.size (.dK []) :=
  ⟨Nat.zero_le _, beq_eq_false_iff_ne.mpr (Ne.symm (Nat.ne_of_lt hb)), [], .nil, Heap.DictOf.new h⟩
/-- {}, to be a dict of the kind that is wanted -/
def tDNewK : TE := fun _ H Q => ∀ p, H p = none → Q (.ref p) (upd H p (.dK []))
section
variable {X : Cx} {pos : Pos}
theorem pe_dnewK : PE X (.Dict [] [] pos) tDNewK := fun pins s σ H Q I h =>
  wpAny_Dict_empty ⟨.ref s.heap.objs.size, _, I.laid (a := s.heap.objs.size) (o := .dK []) (t' := s.toks) (fun _ _ q => Heap.get?_push_of_some _ q) (Nat.le_refl _) (dk_empty s.heap I.big), rfl, h _ (I.hok.fresh (Nat.le_refl _))⟩
end

/-- the pairs of a display, from the left -/
def tPairs : List (TE × TE) → St → Hp → (List (V × V) → Hp → Prop) → Prop
  | [], _, H, Q => Q [] H
  | (tk, tv) :: r, σ, H, Q => tk σ H fun x H1 => tv σ H1 fun y H2 => tPairs r σ H2 fun ps H3 => Q ((x, y) :: ps) H3
abbrev VV : List (V × V) → List (Value × Value) → Prop := Paired fun p q => RelV p.1 q.1 ∧ RelV p.2 q.2
def PPs (X : Cx) (pos : Pos) (keys : List (Option Expr)) (values : List Expr) (trs : List (TE × TE)) : Prop :=
  ∀ (pins : List (Addr × Obj)) (s : Shared) (σ : St) (H : Hp) (Q : List (V × V) → Hp → Prop), Inv X pins σ H s → tPairs trs σ H Q →
    wpAny (model X.prog X.w) X.A (evalPairs (pairTrees keys values X.env pos)) (fun vs s' => ∃ ps H', Inv X pins σ H' s' ∧ VV ps vs ∧ Q ps H') X.xe s
theorem pps_nil {X : Cx} {pos : Pos} : PPs X pos [] [] [] := fun pins s σ H Q I h => pairTrees_nil_walk ⟨[], H, I, .nil, h⟩
theorem pps_cons {X : Cx} {pos : Pos} {k v : Expr} {ks : List (Option Expr)} {vs : List Expr} {tk tv : TE} {trs : List (TE × TE)} (hk : PE X k tk) (hv : PE X v tv) (hr : PPs X pos ks vs trs) :
    PPs X pos (some k :: ks) (v :: vs) ((tk, tv) :: trs) := fun pins s σ H Q I h =>
  pairTrees_cons_walk (thn (hk pins s σ H _ I h) fun u s1 ⟨x, H1, I1, rx, q1⟩ => thn (hv pins s1 σ H1 _ I1 q1) fun w2 s2 ⟨y, H2, I2, ry, q2⟩ =>
    thn (hr pins s2 σ H2 _ I2 q2) fun ws s3 ⟨ps, H3, I3, rel, q3⟩ => ⟨(x, y) :: ps, H3, I3, .cons ⟨rx, ry⟩ rel, q3⟩)

def mergeK (kvs more : List (Key × V)) : List (Key × V) := more.foldl (fun acc kv => putK acc kv.1 kv.2) kvs
theorem KV.merge : ∀ {more : List (Key × V)} {rs : List (Key × Value)} {kvs : List (Key × V)} {vs : List (Key × Value)}, KV more rs → KV kvs vs → KV (mergeK kvs more) (merged vs rs) := by
  intro more rs kvs vs r
  unfold KV at r
  induction r generalizing kvs vs with
  | nil => intro q; exact q
  | @cons p q ps qs h t ih =>
    intro r0
    have e : KV (putK kvs p.1 p.2) (stored vs q.1 q.2) := by
      have := r0.put p.1 h.2
      rw [← h.1]; exact this
    exact ih e
theorem length_mergeK : ∀ (more kvs : List (Key × V)), (mergeK kvs more).length ≤ kvs.length + more.length
  | [], kvs => by show kvs.length ≤ kvs.length + 0; omega
  | p :: r, kvs => by
    have h1 := length_mergeK r (putK kvs p.1 p.2)
    have h2 := length_putK kvs p.1 p.2
    show (mergeK (putK kvs p.1 p.2) r).length ≤ _
    rw [List.length_cons]; omega
theorem carries_of {P : Program} {w : World} : ∀ {kvs : List (Key × V)} {ws : List (Value × Value)}, VV (kvs.map fun kv => (kV kv.1, kv.2)) ws → ∃ rs, Carries (mixKind P w) ws rs ∧ KV kvs rs
  | [], _, r => by rw [List.map_nil] at r; cases r; exact ⟨[], True.intro, .nil⟩
  | p :: kvs, _, r => by
    rw [List.map_cons] at r
    cases r with
    | @cons a b as bs h t =>
      obtain ⟨rs, c, q⟩ := carries_of (P := P) (w := w) t
      obtain ⟨b1, b2⟩ := b
      exact ⟨(p.1, b2) :: rs, ⟨kV_is h.1, rfl, c⟩, .cons ⟨rfl, h.2⟩ q⟩
/-- {k: v, ..} with keys ints and texts; the new dict stands empty while the pairs are made -/
def tDisp (trs : List (TE × TE)) : TE := fun σ H Q => ∀ p, H p = none → tPairs trs σ (upd H p (.dK [])) fun ps H2 => H2 p = some (.dK []) ∧ ∃ kvs : List (Key × V), ps = kvs.map (fun kv => (kV kv.1, kv.2)) ∧ kvs.length ≤ 15 ∧ Q (.ref p) (upd H2 p (.dK (mergeK [] kvs)))
theorem pe_disp {X : Cx} {pos : Pos} {keys : List (Option Expr)} {values : List Expr} {trs : List (TE × TE)} (h : PPs X pos keys values trs) (hall : keys.all (·.isSome) = true) (hl : keys.length = values.length) (h0 : keys ≠ [])
    (h15 : keys.length ≤ 15) : PE X (.Dict keys values pos) (tDisp trs) := by
  intro pins s σ H Q I q
  have hn := I.hok.fresh (Nat.le_refl s.heap.objs.size)
  have I1 := I.laid (a := s.heap.objs.size) (o := .dK []) (h' := s.heap.push { cls := .type "dict", data := .dict #[] }) (t' := s.toks) (fun _ _ q => Heap.get?_push_of_some _ q) (Nat.le_refl _) (dk_empty s.heap I.big)
  refine wpAny_Dict_walk (knd := mixKind X.prog X.w) hall hl h0 h15 (thn (h pins _ σ _ _ I1 (q _ hn)) fun ws s2 ⟨ps, H2, I2, rel, e, kvs, ep, lk, q2⟩ => ?_)
  subst ep
  obtain ⟨rs, c, rk⟩ := carries_of (P := X.prog) (w := X.w) rel
  obtain ⟨z, hd, vs0, r0, dd⟩ := dk_of I2.hok e
  cases r0
  refine ⟨rs, c, dd, fun h' dd' hs => ⟨.ref s.heap.objs.size, _, ?_, rfl, q2⟩⟩
  have hz : (mergeK [] kvs).length ≤ sizeLine := by
    have h1 := length_mergeK kvs []
    rw [List.length_nil] at h1
    rw [sizeLine_eq]; omega
  have he : ∃ q, h'.get? s.heap.objs.size = some q := let ⟨q, _, _, hq, _⟩ := dd'; ⟨q, hq⟩
  exact d_write I2 (by rw [e]; exact True.intro) hs he (dk_new hz hd (rk.merge .nil) dd')


/-! ### methods -/




/-! ### dict(d): a copy -/


end L2

namespace L2
open PySem PySem.Spec PyProof.Rows
/-! ### a dict's pairs: keys that differ -/
end L2

set_option linter.all false
set_option maxRecDepth 100000
set_option maxHeartbeats 4000000
namespace L2
open PySem PySem.Spec PyProof.Rows
/-! ### a comprehension with one condition -/
end L2

set_option linter.all false
set_option maxRecDepth 100000
set_option maxHeartbeats 4000000
namespace L2
open PySem PySem.Spec PyProof.Rows
/-! ### a dict while it is walked -/
/-! ### its keys, its values -/
end L2

set_option linter.all false
set_option maxRecDepth 100000
set_option maxHeartbeats 4000000
namespace L2
open PySem PySem.Spec PyProof.Rows
/-! ### names to numbers -/
section
variable {σ : St} {H : Hp} {td ty tx tv te : TE} {d : Addr} {rs : List (Str × Int)} {K : PySem.W.Frag}
/-- {} -/
theorem gv_newD : Gv tDNewK σ H (fun v H' => ∃ p, H p = none ∧ v = .ref p ∧ H' = upd H p (.dK [])) := fun Q q p hp => q _ _ ⟨p, hp, rfl, rfl⟩
end
end L2

set_option linter.all false
set_option maxRecDepth 100000
set_option maxHeartbeats 4000000
namespace L2
open PySem PySem.StrLaws PySem.Builtin PySem.Builtin.Str PyProof.Rows PySem.NumText
/-! ### any text read as a whole number -/
/-! ### texts cut -/
/-! ### fractions, points, rings -/
/-! ### wishes -/
end L2

set_option linter.all false
set_option maxRecDepth 100000
set_option maxHeartbeats 4000000
namespace L2
open PySem PySem.Spec PyProof.Rows
/-! ### slices of texts -/
section
variable {X : Cx}
/-! ### xs == [] -/
/-! ### things alike -/
mutual
def pd : D → PyData
  | .non => .none
  | .bl b => .bool b
  | .int n => .int n
  | .str s => .str s
  | .tup ds => .tuple (pds ds)
  | .lst ds => .list (pds ds)
  | .dct => .none
def pds : List D → List PyData
  | [] => []
  | d :: r => pd d :: pds r
end
open PySem.SeqAt PyProof.V in
end
/-! ### comprehensions whose elements are read, whatever they are -/
end L2

set_option linter.all false
set_option maxRecDepth 100000
set_option maxHeartbeats 4000000
namespace L2
open PySem PySem.StrLaws PySem.Builtin PyProof.Rows
/-! ### slices -/
theorem six_nat (n d k : Nat) : HT.sIx n d (some (k : Int)) = min k n := by
  show (if ((k : Int)) < 0 then (((k : Int)) + (n : Int)).toNat else min ((k : Int)).toNat n) = _
  rw [if_neg (by omega)]
  rfl
theorem cut_from {α : Type} (xs : List α) (k : Nat) : (xs.drop (HT.sIx xs.length 0 (some (k : Int)))).take (HT.sIx xs.length xs.length none - HT.sIx xs.length 0 (some (k : Int))) = xs.drop k := by
  rw [six_nat]
  show (xs.drop (min k xs.length)).take (xs.length - min k xs.length) = _
  rw [List.take_of_length_le (by rw [List.length_drop]; omega)]
  rcases Nat.le_total k xs.length with h | h
  · rw [Nat.min_eq_left h]
  · rw [Nat.min_eq_right h, List.drop_length, List.drop_eq_nil_of_le h]
theorem cut_to {α : Type} (xs : List α) (k : Nat) : (xs.drop (HT.sIx xs.length 0 none)).take (HT.sIx xs.length xs.length (some (k : Int)) - HT.sIx xs.length 0 none) = xs.take k := by
  rw [six_nat]
  show (xs.drop 0).take (min k xs.length - 0) = _
  rw [List.drop_zero, Nat.sub_zero]
  rcases Nat.le_total k xs.length with h | h
  · rw [Nat.min_eq_left h]
  · rw [Nat.min_eq_right h, List.take_length, List.take_of_length_le h]
section
variable {σ : St} {H : Hp} {to tk tj : TE} {s : Str} {K : PySem.W.Frag} {a : Addr} {xs : List V}
theorem gv_lFrom {k : Nat} (ho : Pu to σ H (.ref a)) (hk : Pu tk σ H (.int (k : Int))) (hl : H a = some (.lst xs)) : Gv (tSl (rSlL K) to (tPart tk) tNoPart) σ H (fun v H' => ∃ p, H p = none ∧ v = .ref p ∧ H' = upd H p (.lst (xs.drop k))) := fun Q q =>
  ho _ (hk _ ⟨_, rfl, a, xs, rfl, SqL.of hl, fun p hp => by unfold cutV; rw [cut_from]; exact q _ _ ⟨p, hp, rfl, rfl⟩⟩)
theorem gv_lTo {k : Nat} (ho : Pu to σ H (.ref a)) (hk : Pu tk σ H (.int (k : Int))) (hl : H a = some (.lst xs)) : Gv (tSl (rSlL K) to tNoPart (tPart tk)) σ H (fun v H' => ∃ p, H p = none ∧ v = .ref p ∧ H' = upd H p (.lst (xs.take k))) := fun Q q =>
  ho _ (hk _ ⟨_, rfl, a, xs, rfl, SqL.of hl, fun p hp => by unfold cutV; rw [cut_to]; exact q _ _ ⟨p, hp, rfl, rfl⟩⟩)
end
end L2

set_option linter.all false
set_option maxRecDepth 100000
namespace L2
open PySem PySem.Spec PyProof.Rows
/-- a def within a class -/
structure FnI (K : PySem.W.Frag) (x qual : Str) (st : Stmt) (f : Addr) (fd : FuncData) (ps : List Str) : Prop where
  F : Fun K x qual st f fd
  b : Binds K fd ps []
end L2

set_option linter.all false
set_option maxRecDepth 100000
set_option maxHeartbeats 4000000
namespace L2
open PySem PySem.Spec PyProof.Rows
/-! ### steps that change no object's dict: no code is run, no such write is made -/
def Calm {α : Type} : Sem α → Prop
  | .pure _ => True
  | .raise _ => True
  | .unsupported _ => True
  | .finish _ => True
  | .rule _ k => Calm (k ())
  | .at _ k => Calm (k ())
  | .load _ _ k => ∀ o, Calm (k o)
  | .update _ _ f k => (∀ o : Obj, (f o).dict = o.dict ∧ (o.data ≠ .freed → (f o).data ≠ .freed)) ∧ Calm (k ())
  | .alloc _ k => ∀ a, Calm (k a)
  | .loadIfAlive _ k => ∀ o, Calm (k o)
  | .point _ k => Calm (k ())
  | .register _ _ => True
  | .fresh k => ∀ t, Calm (k t)
  | .ask k => ∀ t, Calm (k t)
  | .choose _ _ _ => False
  | .os _ _ _ => False
  | .call _ _ _ _ _ => False
  | .handled _ k => ∀ t, Calm (k t)
  | .newGen _ _ => False
  | .genState _ _ => False
  | .resume _ _ _ _ => False
  | .yield _ _ _ _ => True
  | .stack k => ∀ t, Calm (k t)
  | .fork _ _ => True
  | .thread k => ∀ t, Calm (k t)
  | .await _ _ _ _ _ => True
/-- every object has its dict yet -/
def DK (h h' : Heap) : Prop := ∀ b o, h.get? b = some o → ∃ o', h'.get? b = some o' ∧ o'.dict = o.dict
theorem DK.refl (h : Heap) : DK h h := fun b o e => ⟨o, e, rfl⟩
theorem DK.trans {a b c : Heap} (x : DK a b) (y : DK b c) : DK a c := fun n o e => by
  obtain ⟨o1, e1, d1⟩ := x n o e
  obtain ⟨o2, e2, d2⟩ := y n o1 e1
  exact ⟨o2, e2, d2.trans d1⟩
theorem DK.push (h : Heap) (u : Obj) : DK h (h.push u) := fun b o e => ⟨o, Heap.get?_push_of_some _ e, rfl⟩
theorem get_live {h : Heap} {b : Addr} {o : Obj} (e : h.get? b = some o) : o.data ≠ .freed := fun z => by
  unfold Heap.get? at e
  obtain ⟨c, d, dt, sl⟩ := o
  have z' : dt = .freed := z
  subst z'
  split at e
  · cases e
  · rename_i h1 h2
    exact h2 _ _ _ e
theorem DK.update {h : Heap} {a : Addr} {f : Obj → Obj} (hf : ∀ o : Obj, (f o).dict = o.dict ∧ (o.data ≠ .freed → (f o).data ≠ .freed)) : DK h (h.update a f) := fun b o e => by
  by_cases hb : a = b
  · subst hb
    have h1 := (hf o).2 (get_live e)
    refine ⟨f o, Heap.get?_update_self f e ?_, (hf o).1⟩
    revert h1
    generalize f o = u
    intro h1
    obtain ⟨c, d, dt, sl⟩ := u
    cases dt with
    | freed => exact absurd rfl h1
    | _ => rfl
  · exact ⟨o, (Heap.get?_update_other _ _ hb).trans e, rfl⟩
theorem calm_wp {α : Type} {M : Model} {Γ : PySem.Ctx} {Q : α → Pos → Shared → Prop} {E : Value → Pos → Shared → Prop} (s0 : Shared) : ∀ (t : Sem α) (p : Pos) (s : Shared), Calm t → DK s0.heap s.heap → Sem.wp M Γ t Q E p s → Sem.wp M Γ t (fun a p' s' => Q a p' s' ∧ DK s0.heap s'.heap) (fun e p' s' => E e p' s' ∧ DK s0.heap s'.heap) p s := by
  intro t
  induction t with
  | pure a => exact fun p s _ d h => ⟨h, d⟩
  | raise v => exact fun p s _ d h => ⟨h, d⟩
  | unsupported | finish | yield | fork | await | register => exact fun p s _ _ h => h
  | rule _ k ih => exact fun p s c d h => ih () p s c d h
  | «at» p' k ih => exact fun p s c d h => ih () p' s c d h
  | alloc o k ih => exact fun p s c d h => ih _ p _ (c _) (d.trans (DK.push _ _)) h
  | loadIfAlive _ k ih => exact fun p s c d h => ih _ p s (c _) d h
  | point _ k ih => exact fun p s c d h => ih () p s c d h
  | fresh k ih => exact fun p s c d h => ih _ p _ (c _) d h
  | ask k ih => exact fun p s c d h => ih _ p s (c _) d h
  | handled _ k ih => exact fun p s c d h => ih _ p s (c _) d h
  | stack k ih => exact fun p s c d h => ih _ p s (c _) d h
  | thread k ih => exact fun p s c d h => ih _ p s (c _) d h
  | load a _ k ih => exact fun p s c d ⟨o, ho, h⟩ => ⟨o, ho, ih o p s (c o) d h⟩
  | update a _ f k ih => exact fun p s c d ⟨ha, h⟩ => ⟨ha, ih () p _ c.2 (d.trans (DK.update c.1)) h⟩
  | choose | os | call | newGen | genState | resume => exact fun p s c _ _ => c.elim
theorem calm_and {α : Type} {M : Model} {A : Around} {t : Sem α} {Q : α → Shared → Prop} {E : Value → Shared → Prop} {s : Shared} (c : Calm t) (h : wpAny M A t Q E s) : wpAny M A t (fun a s' => Q a s' ∧ DK s.heap s'.heap) (fun e s' => E e s' ∧ DK s.heap s'.heap) s :=
  fun Γ p hΓ => calm_wp s t p s c (DK.refl _) (h Γ p hΓ)
theorem Calm.bnd {α β : Type} {f : α → Sem β} : ∀ {m : Sem α}, Calm m → (∀ a, Calm (f a)) → Calm (m >>= f) := by
  intro m
  show Calm m → (∀ a, Calm (f a)) → Calm (m.bind f)
  induction m with
  | pure a => exact fun _ h => h a
  | raise | unsupported | finish | yield | fork | await | register => exact fun _ _ => trivial
  | rule _ k ih | «at» _ k ih | point _ k ih => exact fun c h => ih () c h
  | alloc _ k ih | loadIfAlive _ k ih | fresh k ih | ask k ih | handled _ k ih | stack k ih | thread k ih | load _ _ k ih => exact fun c h x => ih x (c x) h
  | update a _ f k ih => exact fun c h => ⟨c.1, ih () c.2 h⟩
  | choose | os | call | newGen | genState | resume => exact fun c _ => c.elim
theorem calm_fieldsOf (v : Value) : Calm (fieldsOf v) := by
  unfold fieldsOf
  cases v with
  | ref a =>
    refine Calm.bnd (m := load a) (fun _ => trivial) fun o => ?_
    cases o.data <;> trivial
  | _ => trivial
theorem calm_field (v : Value) (i : Nat) : Calm (field v i) := by
  unfold field
  refine Calm.bnd (calm_fieldsOf v) fun vs => ?_
  split <;> trivial
theorem calm_setField (v : Value) (i : Nat) (x : Value) : Calm (setField v i x) := by
  unfold setField
  cases v with
  | ref a =>
    unfold updateField
    refine Calm.bnd (m := load a) (fun _ => trivial) fun o => ?_
    cases hd : o.data with
    | fields vs =>
      dsimp only
      split
      · refine ⟨fun o => ⟨?_, fun n => ?_⟩, trivial⟩
        · obtain ⟨c, d, dt, sl⟩ := o
          cases dt <;> rfl
        · obtain ⟨c, d, dt, sl⟩ := o
          cases dt <;> first | exact absurd rfl n | (intro z; cases z)
      · trivial
    | _ => trivial
  | _ => trivial
theorem calm_stack : Calm stack := fun _ => trivial
theorem calm_ready : ∀ l : List Env, Calm (readyFrames l)
  | [] => trivial
  | env :: outer => by
    unfold readyFrames
    cases env.frame with
    | none => trivial
    | some f =>
      dsimp only
      refine Calm.bnd (m := load f) (fun _ => trivial) fun o => ?_
      split
      · trivial
      · refine Calm.bnd ?_ fun b => Calm.bnd ?_ fun v => Calm.bnd (m := update f _) ⟨fun o => ⟨rfl, id⟩, trivial⟩ fun _ => calm_ready outer
        · unfold behindIsImport
          split
          · trivial
          · split
            · trivial
            · exact Calm.bnd (calm_field _ _) fun _ => trivial
        · unfold keptBack
          split
          · split
            · trivial
            · exact Calm.bnd (show Calm underTheClaimsCaller from Calm.bnd calm_stack fun _ => trivial) fun _ => trivial
          · trivial
theorem calm_frameOf (env : Env) : Calm (PySem.frameOf env) := by
  unfold PySem.frameOf
  refine Calm.bnd (show Calm frameEnvs from Calm.bnd calm_stack fun _ => trivial) fun l => Calm.bnd ?_ fun x => by cases x <;> trivial
  unfold frameObject
  split
  · trivial
  · exact Calm.bnd (calm_ready _) fun _ => trivial
theorem calm_place (f : Addr) (b : Bool) : Calm (entryPlaceOf f b) := by
  unfold entryPlaceOf
  refine Calm.bnd calm_stack fun l => ?_
  split <;> trivial
theorem calm_newEntry (a b c d e : Value) (l : List Value) : Calm (EntryCells.newEntry a b c d e l) := by
  unfold EntryCells.newEntry newFields newObj newObjAsIs
  dsimp only
  generalize ([a, b, c, d, e] ++ (if l.isEmpty then List.replicate 6 Value.none else l)).toArray = vs
  split
  · trivial
  · show Calm (alloc _ >>= fun a => _)
    refine Calm.bnd (fun _ => trivial) fun a => ?_
    trivial
theorem calm_note (e : Value) (env : Env) : Calm (noteFrame e env) := by
  unfold noteFrame
  cases env.frame with
  | none => trivial
  | some f =>
    dsimp only
    have fin : ∀ v, Calm (do let a ← PySem.frameOf env; let pl ← entryPlaceOf f (v != .none); let b ← EntryCells.newEntry v a .none (rawInt f) .none pl; setField e 1 b) := fun v =>
      Calm.bnd (calm_frameOf env) fun _ => Calm.bnd (calm_place _ _) fun _ => Calm.bnd (calm_newEntry _ _ _ _ _ _) fun _ => calm_setField _ _ _
    refine Calm.bnd (calm_field _ _) fun v => ?_
    split
    · refine Calm.bnd (calm_field _ _) fun u => ?_
      split
      · trivial
      · exact Calm.bnd (calm_setField _ _ _) fun _ => fin v
    · exact fin v
theorem calm_flight (e : Value) (f : Option Addr) : Calm (setFlight e f) := by
  unfold setFlight
  refine Calm.bnd (calm_field _ _) fun v => ?_
  split
  · exact calm_setField _ _ _
  · trivial
theorem calm_leaving (env : Env) (e : Value) : Calm (leaving env e) := by
  unfold leaving
  exact Calm.bnd (calm_note e env) fun _ => calm_flight _ _
end L2

set_option linter.all false
set_option maxRecDepth 100000
set_option maxHeartbeats 4000000
namespace L2
open PySem PySem.Spec PyProof.Rows
/-! ### exceptions with fields of their own -/
/-- an exception stands there, this its dict -/
def exA (a : Addr) (cls : Value) (dd : Option Addr) : Heap → Prop := fun h => ∃ o vs, h.get? a = some o ∧ o.cls = cls ∧ o.dict = dd ∧ o.data = .fields vs
/-- one that never flew -/
def exO (a : Addr) (cls : Value) (dd : Option Addr) (t : Addr) : Heap → Prop := fun h => h.get? a = some { cls := cls, dict := dd, data := .fields #[.ref t, .none, .none, .none, .bool false, .none] }
/-- its fields -/
def xdI (d : Addr) (fs : List (Str × V)) : Heap → Prop := fun h => ∃ mA, h.Ns1 d mA ∧ ∀ f, RelO (fs.lookup f) (mA f)
theorem exA.of {a : Addr} {cls : Value} {dd : Option Addr} {h : Heap} (x : exA a cls dd h) : isOf a cls h := let ⟨o, _, h1, h2, _⟩ := x; ⟨o, h1, h2⟩
/-- an own class of exceptions -/
def exM (K : PySem.W.Frag) (C : Addr) : Bool := match PySem.W.clsIn K C with
  | some cd => cd.hasDict && (match cd.mro with
    | [.ref C', .ref _, .type "ValueError", .type "Exception", .type "BaseException", .type "object"] => C' == C
    | _ => false)
  | none => false
structure XCls (K : PySem.W.Frag) (C : Addr) : Prop where
  c : exC K C = true
  m : exM K C = true
  sa : PySem.W.findIn K (.ref C) "__setattr__" = some (some (.builtin "object.__setattr__"))
theorem exM_of {K : PySem.W.Frag} {C : Addr} (h : exM K C = true) : ∃ cd D, PySem.W.clsIn K C = some cd ∧ cd.hasDict = true ∧ cd.mro = .ref C :: .ref D :: veB := by
  unfold exM at h
  split at h
  · rename_i cd hc
    rw [Bool.and_eq_true] at h
    obtain ⟨h1, h2⟩ := h
    split at h2
    · rename_i C' D hm
      obtain rfl : C' = C := beq_iff_eq.mp h2
      exact ⟨cd, D, hc, h1, hm⟩
    · cases h2
  · cases h
section
open PySem.W PySem.Calls Builtin Builtin.ObjectAttr
variable {prog : Program} {w : World} {A : Around} {E : Value → Shared → Prop} {s : Shared} {K : PySem.W.Frag} {x C dx : Addr} {ox : Obj} {od : Option Obj} {name : Str} {v : Value}
theorem xs_open {tk : Tok} {R : Result → Shared → Prop} (X : K.In s.heap) (I : InstAt s.heap x ox C od) (c : XCls K C) (n : findIn K (.ref C) name = some none)
    (h : wpAny (model prog w) A.in1 (storeInOwnDict (.ref x) (.ref C) (.str name tk) name v false)
      (fun fin s' => match fin with | .done f => R (.ok f) s' | .again c' => c'.quiet = true ∧ codeAny (model prog w) A c' R s') (fun e s' => R (.error e) s') s) :
    codeAny (model prog w) A (.call (.builtin "object.__setattr__") ⟨[.ref x, .str name tk, v], []⟩) R s := by
  have SF := PySem.F.store_ValueError
  obtain ⟨cd, D, hc, hh, hm⟩ := exM_of c.m
  have ne : cd.mro.isEmpty = false := by rw [hm]; rfl
  have sub : Looks (model prog w) s.heap (isInstance (.ref x) (.type "object")) true := I.type.andThen (looks_mroIn X (by unfold mroIn; rw [hc, Option.bind_some, if_neg (by rw [ne]; decide), hm]; rfl))
  refine codeAny_call_builtin SF.slot.plain SF.entry (@check_slot (model prog w) _ _ s "object.__setattr__" "object" "__setattr__" (.ref x) [.str name tk, v] [] _ SF.kind SF.split sub (SF.args (.ref x) (.str name tk) v) ?_)
  have hmr : Looks (model prog w) s.heap (mroOf (.ref C)) cd.mro := (looks_clsIn X hc).andThen .now
  rw [osa_eq, refuse_eq]
  refine wpAny_bind (wpAny_bind (I.type.here (wpAny_bind (hmr.here ?_))))
  rw [hm, refuseLoop_ref, refuseLoop_ref]
  rw [show refuseLoop (.ref x) "__setattr__" veB = pure () from SF.passes (.ref x)]
  exact wpAny_pure (wpAny_bind (I.type.here (wpAny_bind ((looks_findIn X n).here (wpAny_bind (wpAny_pure h))))))
theorem xs_old {vs : Array Value} {mA : Str → Option Value} {ns : List Str} {Q : Unit → Shared → Prop} (X : K.In s.heap) (hx : s.heap.get? x = some { cls := .ref C, dict := some dx, data := .fields vs }) (hn : s.heap.Ns1 dx mA) (hne : dx ≠ x) (c : XCls K C) (n : findIn K (.ref C) name = some none)
    (hw : PySem.Within mA ns) (hsz : ns.length ≤ sizeLine)
    (h : ∀ h' tk, h'.Ns1 dx (fun y => if y = name then some v else mA y) → Heap.SameBut dx s.heap h' → Q () { s with heap := h', toks := tk }) :
    wpAny (model prog w) A (setAttr (.ref x) name v) Q E s := by
  obtain ⟨od, hod, _⟩ := lookIn_ns hn
  have J : InstAt s.heap x { cls := .ref C, dict := some dx, data := .fields vs } C (some od) := ⟨hx, rfl, rfl, hod⟩
  refine set_plain X J c.sa (xs_open (s := { s with toks := s.toks + 1 }) X J c n ?_)
  obtain ⟨cd, D, hc, hd', hm⟩ := exM_of c.m
  refine wpAny_bind (wpAny_pure (wpAny_bind (wpAny_bind (wpAny_loadPart hx (wpAny_bind (PySem.W.Looks.here (s := { s with toks := s.toks + 1 }) (PySem.W.looks_clsIn X hc) ?_))))))
  rw [hd']
  refine wpAny_pure (a := some dx) (wpAny_bind (wpAny_pure (wpAny_bind ?_)))
  refine wpAny_nsSet1 (s := { s with toks := s.toks + 1 }) hn fun h' hn2 hs2 => ?_
  obtain ⟨oD, esD, epD, hoD, hdD, hcD⟩ := hn2.count (PySem.Within.cons name v hw)
  refine wpAny_bind (wpAny_lookBehind hoD (by rw [hdD]; exact pastItsLine_dict (Nat.le_trans hcD (by rw [List.length_cons]; omega))) ?_)
  exact wpAny_pure (h _ _ hn2 hs2)
/-- a dict of its own for x -/
theorem own_dict {h : Heap} {x : Addr} {cl : Value} {vs : Array Value} (hx : h.get? x = some { cls := cl, data := .fields vs }) :
    ((h.push { cls := .type "dict", data := .dict #[] }).update x fun o => { cls := o.cls, dict := some h.objs.size, data := o.data, slots := o.slots }).Ns h.objs.size (fun _ => none) ∧
    ((h.push { cls := .type "dict", data := .dict #[] }).update x fun o => { cls := o.cls, dict := some h.objs.size, data := o.data, slots := o.slots }).get? x = some { cls := cl, dict := some h.objs.size, data := .fields vs } ∧
    ∀ b o, b ≠ x → h.get? b = some o → ((h.push { cls := .type "dict", data := .dict #[] }).update x fun o => { cls := o.cls, dict := some h.objs.size, data := o.data, slots := o.slots }).get? b = some o := by
  have ne := Nat.ne_of_lt (Heap.lt_size hx)
  exact ⟨⟨_, #[], _, (Heap.get?_update_ne _ _ _ _ ne.symm).trans (Heap.get?_push_size _ rfl), rfl, fun _ z => absurd z (by simp), fun _ => rfl⟩, Heap.get?_update_self _ (Heap.get?_push_of_some _ hx) rfl,
    fun b o n e => (Heap.get?_update_ne _ _ _ _ n).trans (Heap.get?_push_of_some _ e)⟩
theorem xs_new {vs : Array Value} {Q : Unit → Shared → Prop} (X : K.In s.heap) (hx : s.heap.get? x = some { cls := .ref C, data := .fields vs }) (c : XCls K C) (n : findIn K (.ref C) name = some none)
    (h : ∀ h' tk, h'.Ns1 s.heap.objs.size (fun y => if y = name then some v else none) → h'.get? x = some { cls := .ref C, dict := some s.heap.objs.size, data := .fields vs } → (∀ b o, b ≠ x → s.heap.get? b = some o → h'.get? b = some o) → Q () { s with heap := h', toks := tk }) :
    wpAny (model prog w) A (setAttr (.ref x) name v) Q E s := by
  have J : InstAt s.heap x { cls := .ref C, data := .fields vs } C none := ⟨hx, rfl, rfl, trivial⟩
  refine set_plain X J c.sa (xs_open (s := { s with toks := s.toks + 1 }) X J c n ?_)
  obtain ⟨cd, D, hc, hd', hm⟩ := exM_of c.m
  refine wpAny_bind (wpAny_pure (wpAny_bind (wpAny_bind (wpAny_loadPart hx (wpAny_bind (PySem.W.Looks.here (s := { s with toks := s.toks + 1 }) (PySem.W.looks_clsIn X hc) ?_))))))
  rw [hd']
  have nd := own_dict (h := s.heap) hx
  refine wpAny_bind (wpAny_alloc' (wpAny_bind (wpAny_update' (Heap.get?_push_of_some _ hx) (wpAny_pure (a := some s.heap.objs.size) ?_))))
  revert nd
  generalize (s.heap.push { cls := .type "dict", data := .dict #[] }).update x (fun o => { cls := o.cls, dict := some s.heap.objs.size, data := o.data, slots := o.slots }) = g
  rintro ⟨n1, n2, n3⟩
  refine (show wpAny _ _ (newKeyGuard _ _ _ >>= _) _ _ _ from wpAny_bind (wpAny_pure (wpAny_bind (wpAny_nsSet1 (Heap.Ns1.of_empty n1) fun h' m b => ?_))))
  obtain ⟨_, _, _, o1, o2, o3⟩ := m.count (PySem.Within.cons name v PySem.Within.nil)
  have few : [name].length ≤ sizeLine := by rw [List.length_singleton, sizeLine_eq]; omega
  exact wpAny_bind (wpAny_lookBehind o1 (by rw [o2]; exact pastItsLine_dict (Nat.le_trans o3 (Nat.le_succ_of_le few))) (wpAny_pure (h h' _ m ((b.2 x (Nat.ne_of_lt (Heap.lt_size hx))).trans n2) fun c o hc e => (b.2 c (Nat.ne_of_lt (Heap.lt_size e))).trans (n3 c o hc e))))
theorem xg_call {tk : Tok} {vs : Array Value} {mA : Str → Option Value} {R : Result → Shared → Prop} (X : K.In s.heap) (hx : s.heap.get? x = some ox) (hcl : ox.cls = .ref C) (hdd : ox.dict = some dx) (hdt : ox.data = .fields vs) (hn : s.heap.Ns1 dx mA) (c : XCls K C) (n : findIn K (.ref C) name = some none) (hv : mA name = some v)
    (h : R (.ok (.ret v)) s) : codeAny (model prog w) A (.call (.builtin "BaseException.__getattribute__") ⟨[.ref x, .str name tk], []⟩) R s := by
  obtain ⟨hh, g, d, t, os⟩ := s
  have hc := c.c
  unfold exC at hc
  simp only [Bool.and_eq_true, beq_iff_eq] at hc
  obtain ⟨⟨⟨⟨⟨⟨⟨hga, hk⟩, hb⟩, hdct⟩, ha⟩, hn'⟩, ht⟩, hm⟩ := hc
  obtain ⟨od, hod, hl⟩ := lookIn_ns hn
  have J : InstAt hh x ox C (some od) := ⟨hx, hcl, by unfold notCls; rw [hdt], by rw [hdd]; exact hod⟩
  have L0 : Looks (model prog w) hh (typeOf (.ref x)) (.ref C) := J.type
  have LB := looks_mroIn (M := model prog w) X hb
  have LF : Looks (model prog w) hh (find (.ref x) (.ref C) name) (.value v) := looks_find X J (findObj_own hdct n rfl (by rw [hl, hv]))
  have hk : builtinKind "BaseException.__getattribute__" = some .slot := by decide +kernel
  have hsp : splitId "BaseException.__getattribute__" = some ("BaseException", "__getattribute__") := by decide +kernel
  have har := F.args_bexc_ga (.ref x) (.str name tk)
  refine codeAny_call_builtin PySem.F.excAttr_ValueError.ga.plain F.entry_bexc_ga ?_
  simp only [checkBuiltinCall, hk, hsp]
  refine wpAny_bind ?_
  unfold isInstance
  repeat lk
  exact h
theorem xg_attr {expr : Bool} {vs : Array Value} {mA : Str → Option Value} {Q : Value → Shared → Prop} (X : K.In s.heap) (hx : s.heap.get? x = some ox) (hcl : ox.cls = .ref C) (hdd : ox.dict = some dx) (hdt : ox.data = .fields vs) (hn : s.heap.Ns1 dx mA) (c : XCls K C) (n : findIn K (.ref C) name = some none) (hv : mA name = some v) (hv' : handedIn v = true)
    (q : Q v { s with toks := s.toks + 1 }) : wpAny (model prog w) A (getAttr (.ref x) name expr) Q E s := by
  obtain ⟨hh, g, d, t, os⟩ := s
  have hc := c.c
  unfold exC at hc
  simp only [Bool.and_eq_true, beq_iff_eq] at hc
  obtain ⟨⟨⟨⟨⟨⟨⟨hga, hk⟩, hb⟩, hdct⟩, ha⟩, hn'⟩, ht⟩, hm⟩ := hc
  have L0 : Looks (model prog w) hh (typeOf (.ref x)) (.ref C) := isOf_ty ⟨ox, hx, hcl⟩
  have L1 := looks_findIn (M := model prog w) X hga
  have L2 := looks_findIn (M := model prog w) X hk
  have fb := PySem.F.excAttr_ValueError.ga.bind (.ref x)
  unfold getAttr getAttrBy
  refine wpAny_bind (wpAny_mkText (wpAny_holding (wpAny_bind (L0.at (wpAny_bind (L1.at ?_))))))
  show wpAny _ _ (getAttrByItsOwn (.ref x) _ (.ref C) (.builtin "BaseException.__getattribute__") true expr) _ _ _
  unfold getAttrByItsOwn
  refine wpAny_bind (m := hookBefore (.ref C)) (L2.at ?_)
  have ex : (expr && onTheHeap (Value.builtin "BaseException.__getattribute__")) = false := by cases expr <;> rfl
  unfold callGetattribute
  rw [ex]
  refine wpAny_bind (wpAny_attempt (wpAny_holding (wpAny_bind (wpAny_of_eq fb (wpAny_call (xg_call (s := ⟨hh, g, d, t + 1, os⟩) X hx hcl hdd hdt hn c n hv ?_))))))
  exact handed_on hv' q
end
theorem ns_some_of {K : PySem.W.Frag} {h : Heap} {N : Addr} {mg : Str → Option Value} {n : Str} {v : Value} (X : K.In h) (G : h.Ns N mg) (e : PySem.W.nsIn K N n = some (some v)) : mg n = some v := by
  obtain ⟨o, es, ep, ho, hd, _, hf⟩ := G
  unfold PySem.W.nsIn at e
  split at e
  · rename_i c d es' n' sl q
    have := X _ _ q
    rw [ho] at this
    cases this
    cases hd
    split at e
    · rename_i he
      rw [← hf]
      unfold nsFind findBy
      rw [← Array.find?_toList, he]
      exact Option.some.inj e
    · split at e <;> cases e
  · cases e
/-- what the fragment must tell of a class of exceptions with an own __init__ -/
def exI (K : PySem.W.Frag) (C f : Addr) : Bool := PySem.W.isFn K (.ref f) && match K.lookup C with
  | some ⟨.type "type", _, .cls cd, sl⟩ => (match cd.mro, sl.toList with
    | [.ref C', .ref D, .type "ValueError", .type "Exception", .type "BaseException", .type "object"], [_, _, _, _, some (.builtin "ValueError.__new__"), _] => C' == C && !cd.hasDel && PySem.W.nsOkIn K cd.ns && PySem.W.nsIn K cd.ns "__init__" == some (some (.ref f)) && (match K.lookup D with
      | some ⟨_, _, .cls cd2, _⟩ => noInit K cd2.ns
      | _ => false)
    | _, _ => false)
  | _ => false
theorem exI_obj {K : PySem.W.Frag} {h : Heap} {C f : Addr} (X : K.In h) (e : exI K C f = true) : ∃ nm qn N bs D hdct sn sub ab col dd k0 k1 k2 k3 k5 mN,
    h.get? C = some (excClassObj nm qn C N bs (.ref D :: veB) hdct sn sub ab col dd k0 k1 k2 k3 k5 "ValueError.__new__") ∧ h.Ns N mN ∧ mN "__init__" = some (.ref f) ∧ OwnTail h veB (.ref D :: veB) := by
  unfold exI at e
  rw [Bool.and_eq_true] at e
  obtain ⟨_, e⟩ := e
  split at e
  · rename_i dd cd sl ho
    split at e
    · rename_i C' D k0 k1 k2 k3 k5 hm hs
      simp only [Bool.and_eq_true, beq_iff_eq, Bool.not_eq_true'] at e
      obtain ⟨⟨⟨⟨rfl, hdel⟩, hN⟩, hI⟩, e4⟩ := e
      obtain ⟨nm, bs, mro, ns, qn, hd, sn, sub, ab, col, del⟩ := cd
      dsimp only at hm hdel hN hI
      subst hm hdel
      have hsl : sl = #[k0, k1, k2, k3, some (.builtin "ValueError.__new__"), k5] := by
        obtain ⟨l⟩ := sl
        simp only at hs
        rw [hs]
      subst hsl
      split at e4
      · rename_i hD
        obtain ⟨mD, d1, d2⟩ := noInit_ns X e4
        exact ⟨nm, qn, ns, bs, D, hd, sn, sub, ab, col, dd, k0, k1, k2, k3, k5, h.nsMap ns, X _ _ ho, .of_isNs (PySem.W.isNs_of_in X hN), ns_some_of X (.of_isNs (PySem.W.isNs_of_in X hN)) hI, .own (X _ _ hD) d1 d2 .base⟩
      · cases e4
    · cases e
  · cases e
section
variable {prog : Program} {w : World} {A : Around} {E : Value → Shared → Prop} {h : Heap} {g : Array GenState} {d : Drawn} {t : Nat} {os : OsState}
variable {nm q : Str} {C N : Addr} {bs bm bmB : List Value} {hdct : Bool} {sn : List Str} {sub : List Value} {ab : Bool} {col : Option Bool} {dd : Option Addr} {k0 k1 k2 k3 k5 : Option Value} {B Bn newId nid initId inN : String} {bmN : List Value}
/-- the heap with an exception made -/
abbrev exPush (h : Heap) (C : Addr) (rest : List Value) : Heap := (h.push { cls := .type "tuple", data := .seq rest.toArray }).push { cls := .ref C, data := .fields #[.ref h.objs.size, .none, .none, .none, .bool false, .none] }
theorem exPush_up {rest : List Value} : ∀ b o, h.get? b = some o → (exPush h C rest).get? b = some o := fun _ _ e => Heap.get?_push_of_some _ (Heap.get?_push_of_some _ e)
theorem exPush_at {rest : List Value} : (exPush h C rest).get? (h.objs.size + 1) = some ⟨.ref C, none, .fields #[.ref h.objs.size, .none, .none, .none, .bool false, .none], #[]⟩ := by
  have e := Heap.get?_push_size (h.push { cls := .type "tuple", data := .seq rest.toArray }) (o := ⟨.ref C, none, .fields #[.ref h.objs.size, .none, .none, .none, .bool false, .none], #[]⟩) rfl
  rw [Heap.size_push] at e
  exact e
theorem xi_type_call (Fn : ExcBaseFacts Bn newId inN bmN) (hBn : bmB.contains (.type Bn) = true) (F : ExcBaseFacts B nid initId bmB) (T : OwnTail h bmB bm) {rest : List Value} {mN : Str → Option Value} {oI : Obj} {fI : Addr} {Q : Fin → Shared → Prop}
    (hC : h.get? C = some (excClassObj nm q C N bs bm hdct sn sub ab col dd k0 k1 k2 k3 k5 newId)) (hn : h.Ns N mN) (hi : mN "__init__" = some (.ref fI)) (hfI : h.get? fI = some oI) (hfc : oI.cls = .type "function")
    (hq : wpAny (model prog w) A (call (.ref fI) (.ref (h.objs.size + 1) :: rest)) (fun r s' => r = .none ∧ Q (.done (.ret (.ref (h.objs.size + 1)))) s') E ⟨exPush h C rest, g, d, t, os⟩) (hrest : rest.length ≤ sizeLine) :
    wpAny (model prog w) A (Builtin.«type.__call__» ⟨.ref C :: rest, []⟩) Q E ⟨h, g, d, t, os⟩ := by
  -- the object is made: the base's __new__
  repeat (first | (with_reducible refine wpAny_madeBy_exc hC ?_) | (with_reducible refine wpAny_loadPart_at hC ?_) | wp_step)
  refine codeAny_call_builtin_code (Code.quiet_builtin _ Fn.quiet) (wpAny_check_new_subU Fn hBn T hC (codeAny_exc_new_subU Fn hBn F T hC ?_ hrest))
  have up := exPush_up (h := h) (C := C) (rest := rest)
  have new := exPush_at (h := h) (C := C) (rest := rest)
  have isC : (Value.ref C :: bm).contains (.ref C) = true := List.contains_iff_mem.mpr List.mem_cons_self
  have ns : (exPush h C rest).Ns N mN := by
    obtain ⟨o, es, ep, e, r⟩ := hn
    exact ⟨o, es, ep, up _ _ e, r⟩
  -- it is of the class: its __init__ is looked up, bound and called
  refine (show wpAny _ _ (isInstance (.ref (h.objs.size + 1)) (.ref C) >>= _) _ _ ⟨exPush h C rest, g, d, t, os⟩ from wpAny_bind ?_)
  delta isInstance
  repeat (first | (with_reducible refine wpAny_loadPart_at new ?_) | ((with_reducible refine wpAny_isSubtype_exc (up _ _ hC) ?_); rw [isC]) | wp_step)
  refine (wpAny_typeLookup_tail (up _ _ hC) ns (T.keeps up) F.mroIs F.init.lookup ?_)
  rw [hi]
  refine wpAny_holding (wpAny_bind (m := bindSpecial _ _) (wpAny_bind (wpAny_typeOf (T := "function") ⟨oI, up _ _ hfI, hfc⟩ ?_)))
  rw [if_pos (by decide)]
  refine wpAny_pure (wpAny_bind (wpAny_mono hq ?_ fun _ _ => id))
  rintro r s' ⟨rfl, hQ⟩
  wp_walk
  exact hQ
theorem xi_call {K : PySem.W.Frag} {rest : List Value} {fI : Addr} {Q : Value → Shared → Prop} (X : K.In h) (he : exI K C fI = true)
    (hq : wpAny (model prog w) (A.under (.builtin "type.__call__" ⟨.ref C :: rest, []⟩)) (call (.ref fI) (.ref (h.objs.size + 1) :: rest)) (fun r s' => r = .none ∧ Q (.ref (h.objs.size + 1)) s') E ⟨exPush h C rest, g, d, t, os⟩) (hrest : rest.length ≤ sizeLine) :
    wpAny (model prog w) A (call (.ref C) rest) Q E ⟨h, g, d, t, os⟩ := by
  obtain ⟨nm, qn, N', bs, D', hdct, sn, sub, ab, col, dd, k0, k1, k2, k3, k5, mN, hC, hn, hi, T⟩ := exI_obj X he
  unfold exI at he
  rw [Bool.and_eq_true] at he
  have hf := he.1
  unfold PySem.W.isFn PySem.W.typeIn at hf
  have f1 := tc_lookup
  have f2 := tc_bind (.ref C)
  have isT : Shared.TypeIs ⟨h, g, d, t, os⟩ (.ref C) "type" := ⟨_, hC, rfl⟩
  have hfo : ∃ oI, h.get? fI = some oI ∧ oI.cls = .type "function" := by
    cases q : K.lookup fI with
    | none => simp [q] at hf
    | some o =>
      simp [q] at hf
      exact ⟨o, X _ _ q, hf⟩
  obtain ⟨oI, hfI, hfc⟩ := hfo
  refine wpAny_call (codeAny_of_tree (show wpAny _ _ (callAny (.ref C) ⟨rest, []⟩) _ _ _ from ?_))
  repeat (any_goals (first | (with_reducible refine wpAny_loadPart_at hC ?_) | assumption | wp_step))
  refine ⟨rfl, codeAny_call_builtin_at (Code.quiet_builtin _ (by decide +kernel)) entry_typeCall (wpAny_check_type_call_sub hC (xi_type_call PySem.F.excBase_ValueError (by decide +kernel) PySem.F.excBase_ValueError T hC hn hi hfI hfc hq hrest))⟩
end
end L2

set_option linter.all false
set_option maxRecDepth 100000
set_option maxHeartbeats 1000000
namespace L2
open PySem PySem.Spec PyProof.Rows
section
variable {M : Model} {A : Around} {E : Value → Shared → Prop} {env : Env} {nm q : Str} {C N : Addr} {bs bm : List Value} {hdct : Bool} {sn : List Str} {sub : List Value} {ab : Bool} {col : Option Bool} {dd : Option Addr} {k0 k1 k2 k3 k5 : Option Value} {newId : String}
theorem xi_raise0 {s : Shared} {x : Sem Value} {Q : Flow → Shared → Prop} (hh : A.handled = none)
    (h : wpAny M A x (fun v s₁ => ∃ nm q N bs bm hdct sn sub ab col dd k0 k1 k2 k3 k5 newId e t de, v = .ref e ∧ bm.contains (.type "BaseException") = true ∧ s₁.heap.get? C = some (excClassObj nm q C N bs bm hdct sn sub ab col dd k0 k1 k2 k3 k5 newId) ∧
      s₁.heap.get? e = some { cls := .ref C, dict := de, data := .fields #[.ref t, .none, .none, .none, .bool false, .none] } ∧ E (.ref e) s₁) E s) :
    wpAny M A (raiseStmt env (some x) none) Q E s := by
  unfold raiseStmt
  refine wpAny_bind (wpAny_mono h (fun v s₁ h₁ => ?_) fun _ _ x => x)
  obtain ⟨nm, q, N, bs, bm, hdct, sn, sub, ab, col, dd, k0, k1, k2, k3, k5, newId, e, t, de, rfl, hbase, hC, he, hE⟩ := h₁
  obtain ⟨_, _, _, _, _⟩ := s₁
  repeat (first | (with_reducible refine wpAny_loadPart_at hC ?_) | (with_reducible refine wpAny_loadPart_at he ?_) | ((with_reducible refine wpAny_isSubtype_exc hC ?_); rw [show (Value.ref C :: bm).contains (.type "BaseException") = true from (List.contains_cons ..).trans (by rw [hbase]; exact Bool.or_true _)]) | wp_step)
  exact (wpAny_raiseNew_none hh hE)
end
/-- raise of one that was made and given fields -/
theorem xi_raiseStmt {prog : Program} {w : World} {A : Around} {E : Value → Shared → Prop} {s : Shared} {env : Env} {K : PySem.W.Frag} {C f : Addr} {x : Sem Value} {Q : Flow → Shared → Prop} (hI : exI K C f = true) (hh : A.handled = none)
    (h : wpAny (model prog w) A x (fun v s₁ => ∃ e t dd, v = .ref e ∧ K.In s₁.heap ∧ exO e (.ref C) dd t s₁.heap ∧ E (.ref e) s₁) E s) :
    wpAny (model prog w) A (raiseStmt env (some x) none) Q E s := by
  refine xi_raise0 (C := C) hh (wpAny_mono h (fun v s₁ h₁ => ?_) fun _ _ z => z)
  obtain ⟨e, t, dd, rfl, X, he, hE⟩ := h₁
  obtain ⟨nm, qn, N', bs, D', hdct, sn, sub, ab, col, dd', k0, k1, k2, k3, k5, mN, hC, hn, hi, T⟩ := exI_obj X hI
  exact ⟨_, _, _, _, _, _, _, _, _, _, _, _, _, _, _, _, _, e, t, dd, rfl, T.hasType (X := "BaseException") PySem.F.excBase_ValueError.hasBase, hC, he, hE⟩
/-- an exception behind a call, with its dict -/
def CXD (P : Program) (w : World) : CXT := fun outer H s E e s' =>
  ∃ (ea t : Addr) (H1 : Hp) (cls : Value) (B : Heap) (dd : Option Addr), e = .ref ea ∧ s'.os = s.os ∧ AllBare s'.gens ∧ E cls dd H1 ∧ (∀ dx, dd = some dx → ∃ o, s'.heap.get? ea = some o ∧ o.dict = some dx) ∧ Heap.FlyingW B outer ea cls (.ref t) s'.heap ∧ Lay P w outer H H1 s ea B s'.heap
def del (H : Hp) (a : Addr) : Hp := fun b => if b = a then none else H b
theorem del_self {H : Hp} {a : Addr} : del H a a = none := if_pos rfl
theorem del_ne {H : Hp} {a b : Addr} (h : b ≠ a) : del H a b = H b := if_neg h
section
variable {P : Program} {w : World} {K : PySem.W.Frag} {mg : Str → Option Value} {base : Heap} {N : List Str} {qual : Str} {scope : Scope} {f : Addr} {cd : Value} {A : Around} {outer : List Env} {s : Shared} {H : Hp} {E : XK}
/-- one that is tracked flies off -/
theorem flies {pins : List (Addr × Obj)} {σ : St} {H1 : Hp} {s1 : Shared} {e t : Addr} {cls : Value} {dd : Option Addr} (I : Inv (cxOf (CXD P w) P w K mg base N qual scope f cd A outer s H E) pins σ H1 s1) (he : H1 e = some (.ext (exO e cls dd t))) (hnew : s.heap.get? e = none) (hE : E cls dd (del H1 e)) :
    (cxOf (CXD P w) P w K mg base N qual scope f cd A outer s H E).xe (.ref e) s1 := by
  have hx : exO e cls dd t s1.heap := (I.hok e _ he).1
  have fr : ∀ b ∈ frs (envOfC qual scope s.heap.objs.size f cd :: outer), H1 b = none := I.stkFree
  have hin : ∀ env ∈ (envOfC qual scope s.heap.objs.size f cd :: outer), ∀ b, env.frame = some b → b ∈ e :: frs (envOfC qual scope s.heap.objs.size f cd :: outer) := fun env he b hb => List.mem_cons_of_mem _ (List.mem_filterMap.mpr ⟨env, he, hb⟩)
  have nf : ∀ {b : Addr} {o : Obj}, s.heap.get? b = some o → b ∉ frs outer → b ∉ e :: frs (envOfC qual scope s.heap.objs.size f cd :: outer) := fun {b o} q n z => by
    rcases List.mem_cons.mp z with z | z
    · rw [z, hnew] at q; cases q
    · have z' : b ∈ s.heap.objs.size :: frs outer := z
      rcases List.mem_cons.mp z' with z | z
      · exact absurd (Heap.lt_size q) (by rw [z]; exact Nat.lt_irrefl _)
      · exact n z
  refine wpAny_mono (calm_and (calm_leaving _ _) (wpAny_leaving_firstW (Q := fun _ s' => ∃ h', s' = { s1 with heap := h' } ∧ Heap.LeftW (PySem.W.hideAll s1.heap (e :: frs (envOfC qual scope s.heap.objs.size f cd :: outer))) (envOfC qual scope s.heap.objs.size f cd :: outer) e cls (.ref t) s1.heap h') (A := (cxOf (CXD P w) P w K mg base N qual scope f cd A outer s H E).A) (a0 := .ref t) I.ok.frames (PySem.W.funFrames_hide I.stack hin) rfl hx (fun b o q => PySem.W.of_hideAll _ q) (PySem.W.hideAll_none _ (List.mem_cons_self ..)) rfl rfl rfl fun h' hL => ⟨h', rfl, hL⟩)) ?_ fun _ _ z => z.1
  rintro _ _ ⟨⟨h', rfl, k1, ⟨_, _, k2⟩, k3, k4⟩, dk⟩
  refine ⟨e, t, del H1 e, cls, _, dd, rfl, I.os, I.bare, hE, fun dx z => ?_, ⟨k1, PySem.W.hideAll_none _ (List.mem_cons_self ..), k2, k3⟩, ⟨fun a o q => ?_, del_self, fun b o q n hb => ?_, fun b o q n hb => ?_, fun b o q hb => ?_, fun b o q n => ?_, fun b xs q => ?_, fun b o u q => ?_, fun b ps q => ?_⟩⟩
  · obtain ⟨o', h1, h2⟩ := dk e _ hx
    exact ⟨o', h1, h2.trans z⟩
  · have hae : a ≠ e := fun z => by rw [z, del_self] at q; cases q
    rw [del_ne hae] at q
    refine (I.hok a o q).stay (fun b u hb z => PySem.W.hideAll_get _ z fun hm => ?_) (fun b z => ?_) fun b xs z => ?_
    · rcases List.mem_cons.mp hm with hm | hm
      · subst hm
        rcases hb with rfl | hb
        · exact hae rfl
        · rw [he] at hb; cases hb
      · have := fr b hm
        rcases hb with rfl | hb
        · rw [q] at this; cases this
        · rw [hb] at this; cases this
    · rw [del_ne (fun y => by rw [y, he] at z; cases z)]; exact z
    · rw [del_ne (fun y => by rw [y, he] at z; cases z)]; exact z
  · exact PySem.W.hideAll_get _ (I.base.keep b o q n hb List.not_mem_nil) (nf q hb)
  · obtain ⟨sl, z⟩ := I.base.slot b o q n hb List.not_mem_nil
    obtain ⟨_, o', ho', hd'⟩ := I.ok.funs.mem hb
    rw [show (cxOf (CXD P w) P w K mg base N qual scope f cd A outer s H E).s₀.heap.get? b = some o from q] at ho'
    cases ho'
    obtain ⟨sl2, z2⟩ := k4 b _ z hd'
    exact ⟨sl2, z2⟩
  · obtain ⟨o', z⟩ := I.base.there b o q List.not_mem_nil
    exact ⟨o', PySem.W.hideAll_get _ z (nf q hb)⟩
  · have := I.base.free b o q n (by exact List.not_mem_nil)
    rw [del_ne (fun y => by rw [y, hnew] at q; cases q)]; exact this
  · have := I.base.tups b xs q
    rw [del_ne (fun y => by rw [y, he] at this; cases this)]; exact this
  · have := I.base.frzs b o u q
    rw [del_ne (fun y => by rw [y, he] at this; cases this)]; exact this
  · obtain ⟨m, this⟩ := I.base.tbls b ps q
    exact ⟨m, by rw [del_ne (fun y => by rw [y, he] at this; cases this)]; exact this⟩
end
end L2

set_option linter.all false
set_option maxRecDepth 100000
set_option maxHeartbeats 1000000
namespace L2
open PySem PySem.Spec PyProof.Rows
/-! ### stores and readings of an exception's fields -/
theorem exO.ok {P : Program} {w : World} {H : Hp} {h : Heap} {a t : Addr} {cls : Value} {dd : Option Addr} (x : exO a cls dd t h) : ObjOk P w H h a (.ext (exO a cls dd t)) := ⟨x, ⟨_, x⟩, fun _ _ p k => k _ p⟩
theorem xdI.ok {P : Program} {w : World} {H : Hp} {h : Heap} {d : Addr} {fs : List (Str × V)} (x : xdI d fs h) : ObjOk P w H h d (.ext (xdI d fs)) := by
  refine ⟨x, ?_, fun h1 h2 ⟨mA, n, r⟩ k => ⟨mA, n.at k, r⟩⟩
  obtain ⟨mA, ⟨o, _, _, e, _⟩, _⟩ := x
  exact ⟨o, e⟩
theorem xdI.within {mA : Str → Option Value} {fs : List (Str × V)} (r : ∀ f, RelO (fs.lookup f) (mA f)) : PySem.Within mA (fs.map (·.1)) := fun y hy => by
  have := r y
  cases q : fs.lookup y with
  | none => rw [q] at this; exact absurd (RelO.none_of this) hy
  | some v =>
    obtain ⟨l1, l2, e, _⟩ := List.lookup_eq_some_iff.mp q
    rw [e]
    simp
def sFldE (K : PySem.W.Frag) (ta tv : TE) (f : Str) : TS := fun D σ H => tv σ H fun y H1 => ta σ H1 fun x H2 => ∃ a C t, x = .ref a ∧ XCls K C ∧ NoAttr K C f ∧
  ((H2 a = some (.ext (exO a (.ref C) none t)) ∧ ∀ dx, H2 dx = none → dx ≠ a → D.nx σ (upd (upd H2 a (.ext (exO a (.ref C) (some dx) t))) dx (.ext (xdI dx [(f, y)])))) ∨
   ∃ dx fs, H2 a = some (.ext (exO a (.ref C) (some dx) t)) ∧ dx ≠ a ∧ H2 dx = some (.ext (xdI dx fs)) ∧ fs.length < 1000 ∧ D.nx σ (upd H2 dx (.ext (xdI dx (putF f y fs)))))
def tFldE (K : PySem.W.Frag) (ta : TE) (f : Str) : TE := fun σ H Q => ta σ H fun x H1 => ∃ a C dx fs v φ, x = .ref a ∧ H1 a = some (.ext φ) ∧ (∀ h, φ h → exA a (.ref C) (some dx) h) ∧ H1 dx = some (.ext (xdI dx fs)) ∧ XCls K C ∧ NoAttr K C f ∧ fs.lookup f = some v ∧ Q v H1
section
variable {X : Cx} {o e value : Expr} {f : Str} {pos pos' tpos : Pos} {ta tv : TE}
theorem pe_fldE (he : PE X e ta) (hb : attributeBase e f X.env (eval e X.env) = eval e X.env) : PE X (.Attribute e f pos) (tFldE X.K ta f) := by
  intro pins s σ H Q I h
  refine attr_of hb (thn (he pins s σ H _ I h) fun u s1 ⟨x, H1, I1, rx, a, C, dx, fs, v, φ, ex, ea, hφ, ed, c, n, l, q⟩ => ?_)
  subst ex
  obtain rfl : u = Value.ref a := rx
  obtain ⟨ox, vs, h1, h2, h3, h4⟩ := hφ _ (I1.hok a _ ea).1
  obtain ⟨mA, hn, r⟩ := (I1.hok dx _ ed).1
  obtain ⟨u, hu, ru⟩ := RelO.some_of (v := v) (o := mA f) (by rw [← l]; exact r f)
  exact xg_attr I1.kIn h1 h2 h3 h4 hn c n hu (handed_of ru) ⟨v, H1, I1.tok _, ru, q⟩
theorem ps_fldE (ha : PE X o ta) (hv : PE X value tv) (hs : swapsWith value (some (.Attribute o f pos')) pos.line X.env = pure false) : PS X (.Assign [.Attribute o f pos'] value pos) (sFldE X.K ta tv f) := by
  intro pins s σ H D I h
  refine plainObj_wpAny_Assign_Attribute (thn (hv pins s σ H _ I h) fun u s1 ⟨y, H1, I1, ry, q⟩ => thn (ha pins s1 σ H1 _ I1 q) fun ov s2 ⟨x, H2, I2, rx, a, C, t, ex, c, n, q2⟩ => ?_) hs
  subst ex
  obtain rfl : ov = Value.ref a := rx
  rcases q2 with ⟨ea, q2⟩ | ⟨dx, fs, ea, hne, ed, hl, q2⟩
  · have hx : exO a (.ref C) none t s2.heap := (I2.hok a _ ea).1
    have hxs : a ≠ s2.heap.objs.size := Nat.ne_of_lt (Heap.lt_size hx)
    refine xs_new I2.kIn hx c n fun h' tk hn hx' keep => ?_
    have hm : (s2.heap.update a fun o => { cls := o.cls, dict := some s2.heap.objs.size, data := o.data, slots := o.slots }).get? a = some { cls := .ref C, dict := some s2.heap.objs.size, data := .fields #[.ref t, .none, .none, .none, .bool false, .none] } := Heap.get?_update_self _ hx rfl
    have I3 := I2.write (x := a) (e := a) (o := .ext (exO a (.ref C) (some s2.heap.objs.size) t)) (t' := s2.toks) (h' := s2.heap.update a fun o => { cls := o.cls, dict := some s2.heap.objs.size, data := o.data, slots := o.slots }) (by rw [ea]; exact True.intro) (.inl rfl) (fun b u hb z => (Heap.get?_update_ne _ _ _ _ hb).trans z) ⟨_, hm⟩ (exO.ok hm)
    have I4 := I3.laid (a := s2.heap.objs.size) (o := .ext (xdI s2.heap.objs.size [(f, y)])) (h' := h') (t' := tk) (fun b u z => by
      by_cases hb : b = a
      · subst hb
        rw [show (s2.heap.update b fun o => { cls := o.cls, dict := some s2.heap.objs.size, data := o.data, slots := o.slots }).get? b = some u from z] at hm
        rw [hx']; exact hm.symm
      · exact keep b u hb ((Heap.get?_update_ne _ _ _ _ hb).symm.trans z)) (Nat.le_of_eq (by exact Heap.size_update ..)) (xdI.ok ⟨_, hn, fun g => by
        by_cases hg : g = f
        · subst hg
          rw [if_pos rfl]
          simp only [List.lookup, beq_self_eq_true]
          exact ry
        · have hgb : (g == f) = false := beq_eq_false_iff_ne.mpr hg
          simp only [List.lookup, hgb, hg, if_false]
          exact True.intro⟩)
    exact ⟨σ, _, I4, q2 _ (I2.hok.fresh (Nat.le_refl _)) (Ne.symm hxs)⟩
  · have hx : exO a (.ref C) (some dx) t s2.heap := (I2.hok a _ ea).1
    obtain ⟨mA, hn, r⟩ := (I2.hok dx _ ed).1
    refine xs_old I2.kIn hx hn hne c n (xdI.within r) (by rw [List.length_map, sizeLine_eq]; omega) fun h' tk hn' sb => ?_
    have hd : ∃ o, h'.get? dx = some o := let ⟨o, _, _, e', _⟩ := hn'; ⟨o, e'⟩
    refine ⟨σ, _, I2.write (x := dx) (e := dx) (by rw [ed]; exact True.intro) (.inl rfl) (fun b q hb z => (sb.2 b hb).trans z) hd (xdI.ok ⟨_, hn', fun g => ?_⟩), q2⟩
    show RelO ((putF f y fs).lookup g) (if g = f then some u else mA g)
    rw [lookup_putF]
    by_cases q : g = f
    · rw [if_pos q, if_pos q]; exact ry
    · rw [if_neg q, if_neg q]; exact r g
end
/-! ### raise C(..) with an own __init__ -/
def spI (C : Addr) (names : List Str) : Sp := fun vs H Q _ => ∃ a t vs', vs = .ref a :: vs' ∧ H a = some (.ext (exO a (.ref C) none t)) ∧ vs'.length = names.length ∧
  ∀ dx, H dx = none → dx ≠ a → Q .non (upd (upd H a (.ext (exO a (.ref C) (some dx) t))) dx (.ext (xdI dx (names.zip vs'))))
section
variable {P : Program} {w : World} {K : PySem.W.Frag} {mg : Str → Option Value} {base : Heap} {N : List Str} {qual : Str} {scope : Scope} {f : Addr} {cd : Value} {A : Around} {outer : List Env} {s : Shared} {H : Hp} {E : XK}
theorem ps_raiseI {x : Str} {np cpos pos : Pos} {C fI : Addr} {fd : FuncData} {ps names : List Str} {k j : Nat} {e : Expr} {es : List Expr} {ta : TA} (hI : exI K C fI = true) (hkC : PySem.W.keepIn K (.ref C) = true) (hm : mg x = some (.ref C)) (hg : Gl (cxOf (CXD P w) P w K mg base N qual scope f cd A outer s H E) x)
    (F : FnOk P w K mg base CX0 k fI fd ps (spI C names)) (hr : Room j (A.deeper (envOfC qual scope s.heap.objs.size f cd))) (hj : k + 1 ≤ j) (hb : Binds K fd ps []) (ha : PA (cxOf (CXD P w) P w K mg base N qual scope f cd A outer s H E) (e :: es) ta) (hsz : names.length ≤ 1000 := by decide) (hdb : (x == ("__debug__" : Str)) = false := by decide)
    (he : starEach (e :: es) (cxOf (CXD P w) P w K mg base N qual scope f cd A outer s H E).env = (false, eval e (cxOf (CXD P w) P w K mg base N qual scope f cd A outer s H E).env) :: starEach es (cxOf (CXD P w) P w K mg base N qual scope f cd A outer s H E).env := by rfl) (hpl : (backTo cpos (starEach es (cxOf (CXD P w) P w K mg base N qual scope f cd A outer s H E).env)).any (·.1) = false := by rfl) :
    PS (cxOf (CXD P w) P w K mg base N qual scope f cd A outer s H E) (.Raise (some (.Call (.Name x np) (e :: es) [] cpos)) none pos) (fun _ σ H => ta σ H fun vs H1 => vs.length = names.length ∧ ∀ dx, H1 dx = none → E (.ref C) (some dx) (upd H1 dx (.ext (xdI dx (names.zip vs))))) := by
  intro pins s1 σ H1 D I hE
  rw [arm_exec_Raise]
  refine wpAny_bind (wpAny_standAt (xi_raiseStmt hI (I.ok.hd rfl) (wpAny_bind (wpAny_mono (wpAny_Call_Name_kw (ld_glob I hg hm (PySem.W.callWith_K (h₀ := base) I.ok.mod.kin hkC (thn (ha cpos pins s1 σ H1 _ I hE) fun us s2 ⟨vs, H2, I2, r, hlen, q⟩ => ⟨I2.kIn, ?_⟩) he hpl) hdb)) (fun v s₃ h₃ => wpAny_bind (wpAny_standAt (wpAny_pure h₃))) fun _ _ x => x))))
  have hul : us.length = names.length := by rw [← r.length, hlen]
  obtain ⟨hp, g, d, tk, os⟩ := s2
  show wpAny _ _ (call (.ref C) us) _ _ _
  refine xi_call (h := hp) I2.kIn hI ?_ (by rw [hul, sizeLine_eq]; omega)
  have hget : (exPush hp C us).get? (hp.objs.size + 1) = some { cls := .ref C, data := .fields #[.ref hp.objs.size, .none, .none, .none, .bool false, .none] } := by heap_get
  have hx : exO (hp.objs.size + 1) (.ref C) none hp.objs.size (exPush hp C us) := hget
  have I3 : Inv (cxOf (CXD P w) P w K mg base N qual scope f cd A outer s H E) pins σ (upd H2 (hp.objs.size + 1) (.ext (exO (hp.objs.size + 1) (.ref C) none hp.objs.size))) ⟨exPush hp C us, g, d, tk, os⟩ :=
    I2.laid (a := hp.objs.size + 1) (t' := tk) (fun b u z => Heap.get?_push_of_some _ (Heap.get?_push_of_some _ z)) (Nat.le_succ _) (exO.ok hx)
  have fr2 : H2 (hp.objs.size + 1) = none := I2.hok.fresh (Nat.le_succ _)
  have hnew : s.heap.get? (hp.objs.size + 1) = none := by
    cases z : s.heap.get? (hp.objs.size + 1) with
    | none => rfl
    | some o =>
      obtain ⟨o', z'⟩ := I2.base.there _ o z List.not_mem_nil
      exact absurd (Heap.lt_size z') (by show ¬ (hp.objs.size + 1 < hp.objs.size); omega)
  have r2 : Vals (V.ref (hp.objs.size + 1) :: vs) (Value.ref (hp.objs.size + 1) :: us) := .cons rfl r
  have hq : spI C names (V.ref (hp.objs.size + 1) :: vs) (upd H2 (hp.objs.size + 1) (.ext (exO (hp.objs.size + 1) (.ref C) none hp.objs.size))) (fun v H' => v = .non ∧ ∃ dx, H2 dx = none ∧ dx ≠ hp.objs.size + 1 ∧ H' = upd (upd H2 (hp.objs.size + 1) (.ext (exO (hp.objs.size + 1) (.ref C) (some dx) hp.objs.size))) dx (.ext (xdI dx (names.zip vs)))) E0 := by
    refine ⟨_, _, vs, rfl, upd_same, hlen, fun dx h1 h2 => ⟨rfl, dx, ?_, h2, ?_⟩⟩
    · rw [upd_ne h2] at h1; exact h1
    · rw [upd_upd]
  have hl : (Value.ref (hp.objs.size + 1) :: us ++ []).length = ps.length := by
    have e := r2.length
    rw [F.len _ _ _ _ hq] at e
    rw [List.append_nil]; exact e.symm
  have hbd := hb _ (Value.ref (hp.objs.size + 1) :: us) I3.kIn hl
  rw [List.append_nil] at hbd
  refine wpAny_call (codeAny_mono (F.run _ (envOfC qual scope s.heap.objs.size f cd :: outer) _ _ ⟨Value.ref (hp.objs.size + 1) :: us, []⟩ (Value.ref (hp.objs.size + 1) :: us) _ _ E0 ((hr.mono hj).make C us []) (I3.env0.make C us []) hbd r2 hq) fun r s' hq' => ?_)
  cases r with
  | error e => exact pass0 pins σ _ _ e s' I3 hq'
  | ok fl =>
    cases fl with
    | ret u =>
      obtain ⟨v, H', I4, rv, ev, dx, h1, h2, e3⟩ := I3.after hq'
      subst ev e3
      have ee : (upd (upd H2 (hp.objs.size + 1) (.ext (exO (hp.objs.size + 1) (.ref C) (some dx) hp.objs.size))) dx (.ext (xdI dx (names.zip vs)))) (hp.objs.size + 1) = some (.ext (exO (hp.objs.size + 1) (.ref C) (some dx) hp.objs.size)) := by
        rw [upd_ne (Ne.symm h2), upd_same]
      refine ⟨rv, _, _, some dx, rfl, I4.kIn, (I4.hok _ _ ee).1, flies I4 ee hnew ?_⟩
      have e4 : del (upd (upd H2 (hp.objs.size + 1) (.ext (exO (hp.objs.size + 1) (.ref C) (some dx) hp.objs.size))) dx (.ext (xdI dx (names.zip vs)))) (hp.objs.size + 1) = upd H2 dx (.ext (xdI dx (names.zip vs))) := by
        funext b
        by_cases hb : b = hp.objs.size + 1
        · rw [hb, del_self, upd_ne (Ne.symm h2), fr2]
        · rw [del_ne hb]
          by_cases hd : b = dx
          · rw [hd, upd_same, upd_same]
          · rw [upd_ne hd, upd_ne hb, upd_ne hd]
      rw [e4]
      exact q dx h1
    | next => exact False.elim hq'
    | brk => exact False.elim hq'
    | cont => exact False.elim hq'
end
end L2

set_option linter.all false
set_option maxRecDepth 100000
set_option maxHeartbeats 1000000
namespace L2
open PySem PySem.Spec PyProof.Rows
section
variable {P : Program} {w : World} {K : PySem.W.Frag} {mg : Str → Option Value} {base : Heap} {N : List Str} {qual : Str} {scope : Scope} {f : Addr} {cd : Value} {A : Around} {outer : List Env} {s : Shared} {H : Hp} {E : XK}
theorem ps_raise0D {x : Str} {np cpos pos : Pos} {C : Addr} (hC : exK K C = true) (hm : mg x = some (.ref C)) (hg : Gl (cxOf (CXD P w) P w K mg base N qual scope f cd A outer s H E) x) (hd : (x == ("__debug__" : Str)) = false := by decide) :
    PS (cxOf (CXD P w) P w K mg base N qual scope f cd A outer s H E) (.Raise (some (.Call (.Name x np) [] [] cpos)) none pos) (fun _ _ H1 => E (.ref C) none H1) := by
  intro pins s1 σ H1 D I hE
  obtain ⟨nm, qn, N', bs, D', hdct, sn, sub, ab, col, dd, k0, k1, k2, k3, k5, mN, hCo, hN, hni, T⟩ := exK_obj I.kIn hC
  refine wpAny_Raise_call_subU (C := C) (nm := nm) (q := qn) (N := N') (bs := bs) (bm := .ref D' :: veB) (hdct := hdct) (sn := sn) (sub := sub) (ab := ab) (col := col) (dd := dd) (k0 := k0) (k1 := k1) (k2 := k2) (k3 := k3) (k5 := k5) PySem.F.excBase_ValueError (by decide +kernel) PySem.F.excBase_ValueError (mN := mN) (T.hasType PySem.F.excBase_ValueError.hasBase) (I.ok.hd rfl) rfl hni (ld_glob I hg hm ⟨rfl, ?_⟩ hd)
  refine evalArgs_empty ⟨rfl, Nat.zero_le _, hCo, hN, T, fun h' e hx => ?_⟩
  have fr : ∀ b ∈ frs (envOfC qual scope s.heap.objs.size f cd :: outer), H1 b = none := I.stkFree
  have hin : ∀ env ∈ (envOfC qual scope s.heap.objs.size f cd :: outer), ∀ b, env.frame = some b → b ∈ frs (envOfC qual scope s.heap.objs.size f cd :: outer) := fun env he b hb => List.mem_filterMap.mpr ⟨env, he, hb⟩
  refine wpAny_leaves_madeW (s := { s1 with heap := h' }) (base := PySem.W.hideAll s1.heap (frs (envOfC qual scope s.heap.objs.size f cd :: outer))) (h := s1.heap) I.ok.frames rfl (fun b o q => PySem.W.of_hideAll _ q) (PySem.W.funFrames_hide I.stack hin) hx fun h2 t x1 x2 x3 x4 => ?_
  have nf : ∀ {b : Addr} {o : Obj}, s.heap.get? b = some o → b ∉ frs outer → b ∉ frs (envOfC qual scope s.heap.objs.size f cd :: outer) := fun {b o} e n z => by
    have z' : b ∈ s.heap.objs.size :: frs outer := z
    rcases List.mem_cons.mp z' with q | q
    · exact absurd (Heap.lt_size e) (by rw [q]; exact Nat.lt_irrefl _)
    · exact n q
  refine ⟨e, t, H1, .ref C, _, none, rfl, I.os, I.bare, hE, (by intro dx z; cases z), x1, ⟨fun a o q => ?_, ?_, fun b o q n hb => ?_, fun b o q n hb => ?_, fun b o q hb => ?_, fun b o q n => I.base.free b o q n (by exact List.not_mem_nil), I.base.tups, I.base.frzs, I.base.tbls⟩⟩
  · refine (I.hok a o q).stay (fun b u hb z => PySem.W.hideAll_get _ z fun hm => ?_) (fun _ z => z) fun _ _ z => z
    have := fr b hm
    rcases hb with rfl | hb
    · rw [q] at this; cases this
    · rw [hb] at this; cases this
  · cases q : H1 e with
    | none => rfl
    | some o =>
      obtain ⟨u, hu⟩ := (I.hok e o q).some
      rw [hx.new] at hu; cases hu
  · exact PySem.W.hideAll_get _ (I.base.keep b o q n hb List.not_mem_nil) (nf q hb)
  · obtain ⟨sl, z⟩ := I.base.slot b o q n hb List.not_mem_nil
    obtain ⟨_, o', ho', hd'⟩ := I.ok.funs.mem hb
    rw [show (cxOf (CXD P w) P w K mg base N qual scope f cd A outer s H E).s₀.heap.get? b = some o from q] at ho'
    cases ho'
    obtain ⟨sl2, z2⟩ := x4 b _ (hx.keeps b _ z) hd'
    exact ⟨sl2, z2⟩
  · obtain ⟨o', z⟩ := I.base.there b o q List.not_mem_nil
    exact ⟨o', PySem.W.hideAll_get _ z (nf q hb)⟩
/-- an exception of a callee goes on through this frame -/
theorem passD : Passes (CXD P w) (cxOf (CXD P w) P w K mg base N qual scope f cd A outer s H E) E := by
  rintro pins σ H1 s1 e s' I ⟨ea, t, H2, cls, B, dd, rfl, os, bare, hE, hdd, fl, L⟩
  refine wpAny_mono (calm_and (calm_leaving _ _) (wpAny_leaves_onW (A := (cxOf (CXD P w) P w K mg base N qual scope f cd A outer s H E).A) (Q := fun _ s2 => ∃ h', s2 = { s' with heap := h' } ∧ Heap.FlyingW B outer ea cls (.ref t) h' ∧ s'.heap.UpToSlots h') I.ok.frames rfl fl fun h' fl' up => ⟨h', rfl, fl', up⟩)) ?_ fun _ _ z => z.1
  rintro _ _ ⟨⟨h', rfl, fl', up⟩, dk⟩
  have hdd' : ∀ dx, dd = some dx → ∃ o, h'.get? ea = some o ∧ o.dict = some dx := fun dx z => by
    obtain ⟨o, h1, h2⟩ := hdd dx z
    obtain ⟨o', h3, h4⟩ := dk ea o h1
    exact ⟨o', h3, h4.trans h2⟩
  have nf : ∀ {b : Addr} {o : Obj}, s.heap.get? b = some o → b ∉ frs outer → b ∉ frs (envOfC qual scope s.heap.objs.size f cd :: outer) := fun {b o} e n z => by
    have z' : b ∈ s.heap.objs.size :: frs outer := z
    rcases List.mem_cons.mp z' with q | q
    · exact absurd (Heap.lt_size e) (by rw [q]; exact Nat.lt_irrefl _)
    · exact n q
  have inn : ∀ {b : Addr}, b ∈ frs outer → b ∈ frs (envOfC qual scope s.heap.objs.size f cd :: outer) := fun {b} h => by
    show b ∈ s.heap.objs.size :: frs outer
    exact List.mem_cons_of_mem _ h
  have fre : ∀ b o, s.heap.get? b = some o → H b = none → H1 b = none := fun b o q n => I.base.free b o q n (by exact List.not_mem_nil)
  refine ⟨ea, t, H2, cls, B, dd, rfl, os.trans I.os, bare, hE, hdd', fl', ⟨L.hok, L.new, fun b o q n hb => ?_, fun b o q n hb => ?_, fun b o q hb => ?_, fun b o q n => ?_, fun b xs q => L.tups b xs (I.base.tups b xs q), fun b o u q => L.frzs b o u (I.base.frzs b o u q), fun b ps q => ?_⟩⟩
  · exact L.keep b o (I.base.keep b o q n hb List.not_mem_nil) (fre b o q n) (nf q hb)
  · obtain ⟨sl, z⟩ := I.base.slot b o q n hb List.not_mem_nil
    obtain ⟨sl2, z2⟩ := L.slot b _ z (fre b o q n) (inn hb)
    obtain ⟨_, o', ho', hd'⟩ := I.ok.funs.mem hb
    rw [show (cxOf (CXD P w) P w K mg base N qual scope f cd A outer s H E).s₀.heap.get? b = some o from q] at ho'
    cases ho'
    obtain ⟨sl3, z3⟩ := up b _ z2 hd'
    exact ⟨sl3, z3⟩
  · obtain ⟨o', z⟩ := I.base.there b o q List.not_mem_nil
    exact L.there b o' z (nf q hb)
  · obtain ⟨sl, z⟩ := I.base.any q n List.not_mem_nil
    exact L.free b _ z (fre b o q n)
  · obtain ⟨m1, z1⟩ := I.base.tbls b ps q
    obtain ⟨m2, z2⟩ := L.tbls b _ z1
    exact ⟨m1 ++ m2, by rw [z2, Array.append_assoc]⟩
end
theorem Fun.okD {P : Program} {w : World} {K : PySem.W.Frag} {mg : Str → Option Value} {base : Heap} {x qual : Str} {st : Stmt} {f : Addr} {fd : FuncData} {N ps : List Str} {k : Nat} {sp : Sp} (F : Fun K x qual st f fd) (S : FnScope N ps (defScope st)) (len : ∀ vs H Q E, sp vs H Q E → vs.length = ps.length)
    (hbody : ∀ (cdv : Value) (A : Around) (outer : List Env) (s : Shared) (H : Hp) (vs : List V) (Q : VK) (E : XK), Room k (A.deeper (envOfC qual (defScope st) s.heap.objs.size f cdv)) → sp vs H Q E →
      ∃ t, PSs (cxOf (CXD P w) P w K mg base N qual (defScope st) f cdv A outer s H E) (defBody st) t ∧ t { nx := fun _ H' => Q .non H', rt := Q } (start N vs) H) : FnOk P w K mg base (CXD P w) (k + 1) f fd ps sp := by
  obtain ⟨oc, od, kV, doc, pm, an, cdv, ct, osl, rfl, lk, hcd⟩ := F.ex
  exact fn_of lk hcd S len fun A outer s H vs Q E hr hsp => hbody cdv A outer s H vs Q E hr hsp
/-- what is known of one that was caught -/
def exG (a : Addr) (cls : Value) : Option Addr → Heap → Prop
  | none => isOf a cls
  | some dx => exA a cls (some dx)
theorem exG.of {a : Addr} {cls : Value} {dd : Option Addr} {h : Heap} (x : exG a cls dd h) : isOf a cls h := by
  cases dd with
  | none => exact x
  | some dx => exact exA.of x
theorem exG_of {B : Heap} {l : List Env} {ea : Addr} {cls a0 : Value} {dd : Option Addr} {h : Heap} (fl : Heap.FlyingW B l ea cls a0 h) (hd : ∀ dx, dd = some dx → ∃ o, h.get? ea = some o ∧ o.dict = some dx) : exG ea cls dd h := by
  obtain ⟨ob, vs, hob, hoc, hod, _⟩ := fl.first
  cases dd with
  | none => exact ⟨ob, hob, hoc⟩
  | some dx =>
    obtain ⟨o, h1, h2⟩ := hd dx rfl
    rw [hob] at h1
    cases h1
    exact ⟨ob, vs, hob, hoc, h2, hod⟩
theorem exG.ok {P : Program} {w : World} {H : Hp} {h : Heap} {a : Addr} {cls : Value} {dd : Option Addr} (x : exG a cls dd h) : ObjOk P w H h a (.ext (exG a cls dd)) := by
  refine ⟨x, let ⟨o, e, _⟩ := x.of; ⟨o, e⟩, fun h1 h2 p k => ?_⟩
  cases dd with
  | none =>
    obtain ⟨o, e1, e2⟩ := (show isOf a cls h1 from p)
    exact (show isOf a cls h2 from ⟨o, k o e1, e2⟩)
  | some dx =>
    obtain ⟨o, vs, e1, e2⟩ := (show exA a cls (some dx) h1 from p)
    exact (show exA a cls (some dx) h2 from ⟨o, vs, k o e1, e2⟩)
theorem Inv.exg {X : Cx} {pins : List (Addr × Obj)} {σ : St} {H : Hp} {s : Shared} {a : Addr} {cls : Value} {dd : Option Addr} (I : Inv X pins σ (upd H a (.ext (isOf a cls))) s) (x : exG a cls dd s.heap) : Inv X pins σ (upd H a (.ext (exG a cls dd))) s := by
  have := I.write (x := a) (e := a) (o := .ext (exG a cls dd)) (h' := s.heap) (t' := s.toks) (by rw [upd_same]; exact True.intro) (.inl rfl) (fun _ _ _ z => z) (let ⟨o, e, _⟩ := x.of; ⟨o, e⟩) x.ok
  rw [upd_upd] at this
  exact this
section
variable {X : Cx} {pins : List (Addr × Obj)} {σ : St} {H H1 : Hp} {s s' : Shared} {h : Heap} {ea : Addr}
def tTryD (j : Nat) (K : PySem.W.Frag) (C : Addr) (sp : Sp) (ta : TA) (ts : TS) : TS := fun D σ H => ta σ H fun vs H1 => sp vs H1 (fun _ H2 => D.nx σ H2)
  (fun cls dd H2 => PySem.W.exmOne K cls (.ref C) = some true ∧ ∀ ea, H2 ea = none → ts { nx := fun σ' H' => D.nx (σ'.set j none) H', rt := fun v H' => D.rt v H', bk := fun _ _ => False, ct := fun _ _ => False } (σ.set j (some (.ref ea))) (upd H2 ea (.ext (exG ea cls dd))))
theorem st_tryD {j : Nat} {K : PySem.W.Frag} {C : Addr} {sp : Sp} {ta : TA} {ts rest : TS} {D : Ends} {vs : List V} (ha : PuA ta σ H vs)
    (h : sp vs H (fun _ H2 => rest D σ H2) (fun cls dd H2 => PySem.W.exmOne K cls (.ref C) = some true ∧ ∀ ea, H2 ea = none → ts { nx := fun σ' H' => rest D (σ'.set j none) H', rt := fun v H' => D.rt v H', bk := fun _ _ => False, ct := fun _ _ => False } (σ.set j (some (.ref ea))) (upd H2 ea (.ext (exG ea cls dd))))) : tSeq (tTryD j K C sp ta ts) rest D σ H := ha _ h
theorem ps_tryD {j k : Nat} {fn cn n : Str} {pf pc pa np hp pos : Pos} {f C : Addr} {fd : FuncData} {ps : List Str} {sp : Sp} {e : Expr} {es : List Expr} {ta : TA} {ts : TS} {b₀ : Stmt} {suite : List Stmt}
    (hxe : X.xe = fun _ _ => False) (hstk : X.stack = X.env :: X.outer) (hfr : X.env.frame = some X.env.locals) (hcalm : X.calm = true)
    (G : FnOk X.prog X.w X.K X.mg X.base (CXD X.prog X.w) k f fd ps sp) (hr : Room k X.A) (hgf : Gl X fn) (hmf : X.mg fn = some (.ref f)) (hkf : PySem.W.keepIn X.K (.ref f) = true) (hb : Binds X.K fd ps []) (ha : PA X (e :: es) ta)
    (hN : X.N.Nodup) (hj : X.N[j]? = some n) (hn : X.env.scope.names.lookup n = some .local)
    (hgC : Gl X cn) (hmC : X.mg cn = some (.ref C)) (hs : ∀ ea, PSs (X.suite ea) (b₀ :: suite) ts)
    (hsw : swapsWith (.Call (.Name fn pf) (e :: es) [] pc) none pa.line X.env = pure false := by rfl)
    (hdb : (fn == ("__debug__" : Str)) = false := by decide) (hdc : (cn == ("__debug__" : Str)) = false := by decide) (he : starEach (e :: es) X.env = (false, eval e X.env) :: starEach es X.env := by rfl) (hpl : (backTo pc (starEach es X.env)).any (·.1) = false := by rfl) :
    PS X (.Try [.Expr (.Call (.Name fn pf) (e :: es) [] pc) pa] [.ExceptHandler (some (.Name cn np)) (some n) (b₀ :: suite) hp] [] [] pos) (tTryD j X.K C sp ta ts) := by
  intro pins s σ H D I h
  refine wpAny_Try_except ?_
  refine wpAny_execs_cons (wpAny_Expr_any (wpAny_Call_Name_kw (ld_glob I hgf hmf ?_ hdb)) I.quiet hsw)
  refine PySem.W.callWith_K (h₀ := X.base) I.ok.mod.kin hkf (wpAny_mono (ha pc pins s σ H _ I h) (fun us s1 ⟨vs, H1, I1, r, q⟩ => ⟨I1.kIn, ?_⟩) fun _ _ z => by rw [hxe] at z; exact z.elim) he hpl
  have hl : (us ++ []).length = ps.length := by rw [List.append_nil, ← r.length]; exact G.len _ _ _ _ q
  have hbd := hb s1 us I1.kIn hl
  rw [List.append_nil] at hbd
  refine wpAny_call (codeAny_mono (G.run X.A X.stack s1 H1 ⟨us, []⟩ us vs _ _ hr I1.env0 hbd r q) fun res s2 hq => ?_)
  cases res with
  | ok fl =>
    cases fl with
    | next => exact False.elim hq
    | brk => exact False.elim hq
    | cont => exact False.elim hq
    | ret u =>
      obtain ⟨v, H2, I2, rv, q2⟩ := I1.after hq
      exact wpAny_execs_nil (wpAny_execs_nil ⟨_, H2, I2, q2⟩)
  | error ex =>
    obtain ⟨ea, t, H2, cls, B, dd, rfl, os, bare, ⟨hm, hE⟩, hdd, fl, L⟩ := hq
    have fl' := fl
    rw [hstk] at fl'
    refine wpAny_mono (calm_and (calm_note _ _) (wpAny_looks_onW (Q := fun _ s3 => ∃ h4, s3 = { s2 with heap := h4 } ∧ Heap.HeldW B (X.env :: X.outer) ea cls (.ref t) X.env.locals h4 ∧ s2.heap.UpToSlots h4) (by rw [I.ok.frames, hstk]) hfr fl' fun h4 held4 up4 => ⟨h4, rfl, held4, up4⟩)) ?_ fun _ _ z => z.1
    rintro _ _ ⟨⟨h4, rfl, held4, up4⟩, dk4⟩
    refine wpAny_mono (calm_and (calm_flight _ _) (wpAny_landsW (s := { s2 with heap := h4 }) (Q := fun _ s3 => ∃ h5, s3 = { s2 with heap := h5 } ∧ Heap.FlyingW B (X.env :: X.outer) ea cls (.ref t) h5 ∧ h4.UpToSlots h5) held4 fun h5 fl5 up5 => ⟨h5, rfl, fl5, up5⟩)) ?_ fun _ _ z => z.1
    rintro _ _ ⟨⟨h5, rfl, fl5, up5⟩, dk5⟩
    have up45 := up4.trans up5
    have I5 := I1.caught L os bare up45 (by rw [hstk]; exact fl5)
    obtain ⟨ob, hob, hobc⟩ := fl5.there
    refine wpAny_handleBy_cons (codeAny_handlers_test (ld_glob (X := X.suite ea) (I5.suite ea) hgC hmC ?_ hdc)) (by intro z; cases z)
    have LT : PySem.W.Looks (model X.prog X.w) h5 (typeOf (.ref ea)) cls := hobc ▸ (PySem.W.Looks.ld hob).andThen .now
    refine (PySem.W.exm_one (K := X.K) I5.kIn LT hm).at (codeAny_handlers_suite_as ?_)
    refine wpAny_mono (calm_and (calm_flight _ _) (lands_againW (s := { s2 with heap := h5 }) (Q := fun _ s3 => ∃ h6, s3 = { s2 with heap := h6 } ∧ Heap.FlyingW B (X.env :: X.outer) ea cls (.ref t) h6 ∧ h5.UpToSlots h6) fl5 fun h6 fl6 up6 => ⟨h6, rfl, fl6, up6⟩)) ?_ fun _ _ z => z.1
    rintro _ _ ⟨⟨h6, rfl, fl6, up6⟩, dk6⟩
    have hdd6 : ∀ dx, dd = some dx → ∃ o, h6.get? ea = some o ∧ o.dict = some dx := fun dx z => by
      obtain ⟨o, h1, h2⟩ := hdd dx z
      obtain ⟨o', h3, h4⟩ := ((dk4.trans dk5).trans dk6) ea o h1
      exact ⟨o', h3, h4.trans h2⟩
    have I6 := ((I1.caught L os bare (up45.trans up6) (by rw [hstk]; exact fl6)).exg (exG_of fl6 hdd6)).suite ea
    refine store_ok (X := X.suite ea) I6 hN hj (.inl hn) (show RelV (.ref ea) (.ref ea) from rfl) (fun s7 I7 => ?_) (.inr hn)
    refine wpAny_mono (hs ea pins s7 _ _ _ I7 (hE ea L.new)) (fun fl s8 q8 => ?_) fun _ _ z => z.elim
    cases fl with
    | next =>
      obtain ⟨σ8, H8, I8, q⟩ := q8
      have I8' := I8.unsuite I.ok
      obtain ⟨m, hm, hlk⟩ := id I8'.loc
      exact wpAny_nameGoes_keeps hn hm (by rw [I.ok.kind]; rfl) fun h9 v9 n9 sb9 => ⟨_, H8, I8'.unset hN hj hm hlk n9 sb9, q⟩
    | brk => obtain ⟨_, _, _, q⟩ := q8; exact q.elim
    | cont => obtain ⟨_, _, _, q⟩ := q8; exact q.elim
    | ret u =>
      obtain ⟨v8, σ8, H8, I8, r8, q⟩ := q8
      have I8' := I8.unsuite I.ok
      obtain ⟨m, hm, hlk⟩ := id I8'.loc
      exact wpAny_nameGoes_keeps hn hm (by rw [I.ok.kind]; rfl) fun h9 v9 n9 sb9 => ⟨v8, _, H8, I8'.unset hN hj hm hlk n9 sb9, r8, q⟩
end
/-! ### isinstance of one that was caught -/
section
variable {X : Cx}
theorem call_isinstG {K : PySem.W.Frag} (hK : X.K = K) : CallR X (.builtin "isinstance") (fun xs H Q => ∃ a C c u b dd, xs = [.ref a, c] ∧ H a = some (.ext (exG a (.ref C) dd)) ∧ exC K C = true ∧ IsCls c u ∧ PySem.W.kitOne K (.ref C) u = some b ∧ Q (.bl b) H) := by
  subst hK
  intro pins s σ H xs us Q I r h
  obtain ⟨a, C, c, u, b, dd, rfl, ha, hx, hc, e, q⟩ := h
  obtain ⟨v, u', rfl, ru, rv⟩ := vals2 r
  cases (show v = Value.ref a from ru)
  have eu : u' = u := by
    cases hc with
    | ref a' => exact rv
    | ty n => exact rv
  subst eu
  obtain ⟨p, _, _⟩ := (show ObjOk X.prog X.w H s.heap a (.ext (exG a (.ref C) dd)) from I.hok a _ ha)
  exact PySem.W.kia_one (kitx_exc hx) I.kIn p.of e (fun z => nomatch z) fun tk => ⟨.bl b, H, I.tok _, rfl, q⟩
end
theorem pu_isG {K : PySem.W.Frag} {σ : St} {H : Hp} {t : TA} {a C : Addr} {dd : Option Addr} {c : V} {u : Value} {b : Bool} (ha : PuA t σ H [.ref a, c]) (h : H a = some (.ext (exG a (.ref C) dd))) (hx : exC K C = true) (hc : IsCls c u) (e : PySem.W.kitOne K (.ref C) u = some b) :
    Pu (tCB (fun xs H Q => ∃ a C c u b dd, xs = [.ref a, c] ∧ H a = some (.ext (exG a (.ref C) dd)) ∧ exC K C = true ∧ IsCls c u ∧ PySem.W.kitOne K (.ref C) u = some b ∧ Q (.bl b) H) t) σ H (.bl b) := fun _ q => ha _ ⟨a, C, c, u, b, dd, rfl, h, hx, hc, e, q⟩
theorem pu_fldE {K : PySem.W.Frag} {σ : St} {H : Hp} {ta : TE} {a C dx : Addr} {fs : List (Str × V)} {f : Str} {v : V} (h : Pu ta σ H (.ref a)) (ha : H a = some (.ext (exG a (.ref C) (some dx)))) (hd : H dx = some (.ext (xdI dx fs))) (c : XCls K C) (n : NoAttr K C f) (l : fs.lookup f = some v) : Pu (tFldE K ta f) σ H v := fun _ q =>
  h _ ⟨a, C, dx, fs, v, _, rfl, ha, fun _ z => z, hd, c, n, l, q⟩
end L2

set_option linter.all false
set_option maxRecDepth 100000
set_option maxHeartbeats 1000000
namespace L2
open PySem PySem.Spec PyProof.Rows
section
variable {X : Cx} {k j : Nat} {f : Addr} {fd : FuncData} {ps : List Str} {sp : Sp} {x : Str} {st : Stmt} {p pos : Pos} {e : Expr} {es : List Expr} {t : TA} {E : XK} {P : Program} {w : World}
theorem pe_fnD (T : Fn X.K X.mg x st f fd ps) (G : FnOk X.prog X.w X.K X.mg X.base (CXD P w) k f fd ps sp) (hr : Room j X.A) (hj : k ≤ j) (hx : Passes (CXD P w) X E) (ha : PA X (e :: es) t) (hg : Gl X x := by rfl) (hdb : (x == ("__debug__" : Str)) = false := by decide)
    (he : starEach (e :: es) X.env = (false, eval e X.env) :: starEach es X.env := by rfl) (hpl : (backTo pos (starEach es X.env)).any (·.1) = false := by rfl) : PE X (.Call (.Name x p) (e :: es) [] pos) (tCall sp [] E t) :=
  pe_call G (hr.mono hj) hg T.m T.F.kp T.b .nil hx ha hdb he hpl
end
section
variable {K : PySem.W.Frag} {σ : St} {H : Hp} {D : Ends} {rest : TS} {ta te : TE} {a C t : Addr} {f : Str} {v : V}
theorem st_fldN (he : Pu te σ H v) (ha : Pu ta σ H (.ref a)) (h : H a = some (.ext (exO a (.ref C) none t))) (c : XCls K C) (n : NoAttr K C f) (q : ∀ dx, H dx = none → dx ≠ a → rest D σ (upd (upd H a (.ext (exO a (.ref C) (some dx) t))) dx (.ext (xdI dx [(f, v)])))) : tSeq (sFldE K ta te f) rest D σ H :=
  he _ (ha _ ⟨a, C, t, rfl, c, n, .inl ⟨h, q⟩⟩)
theorem st_fldN1 (he : Pu te σ H v) (ha : Pu ta σ H (.ref a)) (h : H a = some (.ext (exO a (.ref C) none t))) (c : XCls K C) (n : NoAttr K C f) (q : ∀ dx, H dx = none → dx ≠ a → D.nx σ (upd (upd H a (.ext (exO a (.ref C) (some dx) t))) dx (.ext (xdI dx [(f, v)])))) : sFldE K ta te f D σ H :=
  he _ (ha _ ⟨a, C, t, rfl, c, n, .inl ⟨h, q⟩⟩)
theorem st_fldO1 {dx : Addr} {fs : List (Str × V)} (he : Pu te σ H v) (ha : Pu ta σ H (.ref a)) (h : H a = some (.ext (exO a (.ref C) (some dx) t))) (hne : dx ≠ a) (hd : H dx = some (.ext (xdI dx fs))) (hl : fs.length < 1000) (c : XCls K C) (n : NoAttr K C f) (q : D.nx σ (upd H dx (.ext (xdI dx (putF f v fs))))) : sFldE K ta te f D σ H :=
  he _ (ha _ ⟨a, C, t, rfl, c, n, .inr ⟨dx, fs, h, hne, hd, hl, q⟩⟩)
end
/-! ### displays of things of any kind -/
def DE (hd : Addr) (σ : St) (H0 : Hp) (te : TE) (d : D) : Prop := ∀ H', Same H0 H' → Gv te σ H' (fun v H2 => Same H' H2 ∧ DAt hd H2 v d)
def DA (hd : Addr) (σ : St) (H0 : Hp) (ta : TA) (ds : List D) : Prop := ∀ H', Same H0 H' → GvA ta σ H' (fun vs H2 => Same H' H2 ∧ DsAt hd H2 vs ds)
section
variable {hd : Addr} {σ : St} {H0 : Hp} {te te' : TE} {ta : TA} {d : D} {ds ds' : List D}
theorem de_s {x : Str} (h : (∀ c ∈ x.cps.toList, c < 128) ∧ x.length ≤ 1000) : DE hd σ H0 (tC (.str x)) (.str x) := fun H' s => Pu.gv' pu_c ⟨Same.rfl', .str x h⟩
theorem de_i {n : Int} : DE hd σ H0 (tC (.int n)) (.int n) := fun H' s => Pu.gv' pu_c ⟨Same.rfl', .int n⟩
theorem de_b {b : Bool} : DE hd σ H0 (tC (.bl b)) (.bl b) := fun H' s => Pu.gv' pu_c ⟨Same.rfl', .bl b⟩
theorem de_n : DE hd σ H0 (tC .non) .non := fun H' s => Pu.gv' pu_c ⟨Same.rfl', .non⟩
theorem de_p {v : V} (h : ∀ H', Same H0 H' → Pu te σ H' v) (hv : ∀ H', Same H0 H' → DAt hd H' v d) : DE hd σ H0 te d := fun H' s => Pu.gv' (h H' s) ⟨Same.rfl', hv H' s⟩
theorem de_d : DE hd σ H0 tDNewK .dct := fun H' s => gv_newD.imp fun v H2 ⟨p, hp, e1, e2⟩ => by subst e1 e2; exact ⟨Same.upd hp, .dct upd_same⟩
theorem de_disp {trs : List (TE × TE)} {kvs : List (Key × V)} (h : ∀ (H : Hp) (Q : List (V × V) → Hp → Prop), Q (kvs.map fun kv => (kV kv.1, kv.2)) H → tPairs trs σ H Q) (hl : kvs.length ≤ 15) : DE hd σ H0 (tDisp trs) .dct := fun H' s Q q p hp => h _ _ ⟨upd_same, kvs, rfl, hl, by
  rw [upd_upd]
  exact q _ _ ⟨Same.upd hp, .dct upd_same⟩⟩
theorem da_n : DA hd σ H0 tNil [] := fun H' s Q q => q _ _ ⟨Same.rfl', .nil⟩
theorem da_c (h : DE hd σ H0 te d) (t : DA hd σ H0 ta ds) : DA hd σ H0 (tCons te ta) (d :: ds) := fun H' s Q q => h H' s _ fun v H1 r => t H1 (s.trans r.1) _ fun vs H2 r' => q _ _ ⟨r.1.trans r'.1, .cons (r.2.same r'.1) r'.2⟩
theorem de_tup (h : DA hd σ H0 ta ds) (hz : ds.length ≤ 1000 := by simp) : DE hd σ H0 (tTup ta) (.tup ds) := fun H' s => gv_tupA (h H' s) fun vs H1 r => ⟨by rw [r.2.len]; exact Nat.le_trans hz (by decide), fun p hp => ⟨r.1.trans (Same.upd hp), .tup upd_same (r.2.same (Same.upd hp))⟩⟩
theorem de_lst {o : HO} (ho : H0 hd = some o) (h : DA hd σ H0 ta ds) (hz : ds.length ≤ 1000 := by simp) : DE hd σ H0 (tLst ta) (.lst ds) := fun H' s => gv_lstA (h H' s) fun vs H1 r => ⟨by rw [r.2.len]; exact Nat.le_trans hz (by decide), fun p hp => ⟨r.1.trans (Same.upd hp), .lst upd_same (Ne.symm (ne_of_none (r.1 _ _ (s _ _ ho)) hp)) (r.2.same (Same.upd hp))⟩⟩
theorem ds_app {H : Hp} : ∀ {vs ws : List V} {ds es : List D}, DsAt hd H vs ds → DsAt hd H ws es → DsAt hd H (vs ++ ws) (ds ++ es)
  | _, _, _, _, .nil, h => h
  | _, _, _, _, .cons a t, h => .cons a (ds_app t h)
theorem ds_ints {H : Hp} : ∀ ns : List Int, DsAt hd H (ns.map V.int) (ns.map D.int)
  | [] => .nil
  | n :: ns => .cons (.int n) (ds_ints ns)
theorem ds_set {H : Hp} {v : V} {d : D} (h : DAt hd H v d) : ∀ {vs : List V} {ds : List D} (i : Nat), DsAt hd H vs ds → DsAt hd H (vs.set i v) (ds.set i d)
  | _, _, _, .nil => .nil
  | _, _, 0, .cons a t => .cons h t
  | _, _, i + 1, .cons a t => .cons a (ds_set h i t)
/-- a display kept as a list -/
theorem gv_lstD {H : Hp} (h : DA hd σ H ta ds) (hz : ds.length ≤ 1000 := by simp) : Gv (tLst ta) σ H (fun v H' => ∃ p xs, v = .ref p ∧ H p = none ∧ Same H H' ∧ H' p = some (.lst xs) ∧ DsAt hd H' xs ds) := fun Q q =>
  h H Same.rfl' _ fun vs H1 r => ⟨by rw [r.2.len]; exact Nat.le_trans hz (by decide), fun p hp => q _ _ ⟨p, vs, rfl, same_none r.1 hp, r.1.trans (Same.upd hp), upd_same, r.2.same (Same.upd hp)⟩⟩
end
/-! ### numbers in lowest terms, two or three of them -/
def gcI : List Int → Nat
  | [] => 0
  | a :: r => Nat.gcd a.natAbs (gcI r)
def okI (m : Nat) (ns : List Int) : Bool := decide (ns.length = m) && decide (1 ≤ ns.getLastD 0) && decide (gcI ns = 1)
def intsD : List D → Option (List Int)
  | [] => some []
  | .int n :: r => (intsD r).map (n :: ·)
  | _ :: _ => none
def okN (m : Nat) : D → Bool
  | .tup ds => match intsD ds with
    | some ns => okI m ns
    | none => false
  | _ => false
theorem intsD_ints : ∀ ns : List Int, intsD (ns.map D.int) = some ns
  | [] => rfl
  | n :: ns => by simp [intsD, intsD_ints ns]
theorem okN_ints (m : Nat) (ns : List Int) : okN m (.tup (ns.map D.int)) = okI m ns := by simp [okN, intsD_ints]
theorem intsD_len : ∀ {ds : List D} {ns : List Int}, intsD ds = some ns → ds = ns.map D.int
  | [], ns, h => by cases h; rfl
  | .int n :: r, ns, h => by
    simp only [intsD, Option.map_eq_some_iff] at h
    obtain ⟨a, h1, rfl⟩ := h
    rw [intsD_len h1]; rfl
  | .non :: _, _, h => by cases h
  | .bl _ :: _, _, h => by cases h
  | .str _ :: _, _, h => by cases h
  | .tup _ :: _, _, h => by cases h
  | .lst _ :: _, _, h => by cases h
  | .dct :: _, _, h => by cases h
theorem okN_len {m : Nat} {ds : List D} (h : ds.length ≠ m) : okN m (.tup ds) = false := by
  show (match intsD ds with | some ns => okI m ns | none => false) = false
  cases e : intsD ds with
  | none => rfl
  | some ns =>
    have := intsD_len e
    subst this
    rw [List.length_map] at h
    show okI m ns = false
    simp [okI, h]
theorem intsD_bad {d : D} (h : ∀ n, d ≠ .int n) : ∀ (ds : List D) (i : Nat), i < ds.length → intsD (ds.set i d) = none
  | [], i, hi => absurd hi (Nat.not_lt_zero _)
  | e :: r, 0, _ => by
    cases d with
    | int n => exact absurd rfl (h n)
    | _ => rfl
  | e :: r, i + 1, hi => by
    have := intsD_bad h r i (Nat.lt_of_succ_lt_succ hi)
    cases e with
    | int n => show (intsD (r.set i d)).map _ = none; rw [this]; rfl
    | _ => rfl
theorem okN_bad {m : Nat} {d : D} (h : ∀ n, d ≠ .int n) {ds : List D} {i : Nat} (hi : i < ds.length) : okN m (.tup (ds.set i d)) = false := by
  show (match intsD (ds.set i d) with | some ns => okI m ns | none => false) = false
  rw [intsD_bad h ds i hi]
theorem gcI_mul (k : Int) : ∀ ns : List Int, gcI (ns.map (· * k)) = gcI ns * k.natAbs
  | [] => by simp [gcI]
  | n :: ns => by
    show Nat.gcd (n * k).natAbs (gcI (ns.map (· * k))) = Nat.gcd n.natAbs (gcI ns) * k.natAbs
    rw [gcI_mul k ns, Int.natAbs_mul, Nat.gcd_mul_right]
theorem okI_mul {m : Nat} {k : Int} (hk : 2 ≤ k) {ns : List Int} : okI m (ns.map (· * k)) = false := by
  unfold okI
  have : gcI (ns.map (· * k)) ≠ 1 := by
    rw [gcI_mul]
    intro e
    have h1 : k.natAbs = 1 := Nat.eq_one_of_mul_eq_one_left e
    omega
  simp [this]
theorem okI2 (a b : Int) : okI 2 [a, b] = (decide (1 ≤ b) && decide ((Int.gcd a b : Int) = 1)) := by
  unfold okI gcI gcI gcI
  rw [Nat.gcd_zero_right]
  have : (Nat.gcd a.natAbs b.natAbs = 1) ↔ ((Int.gcd a b : Nat) : Int) = 1 := by
    show (Int.gcd a b = 1) ↔ _
    omega
  rw [Bool.eq_iff_iff]
  simp only [Bool.and_eq_true, decide_eq_true_iff, List.length_cons, List.length_nil, this]
  simp
theorem okI3 (a b c : Int) : okI 3 [a, b, c] = (decide (1 ≤ c) && decide ((Int.gcd (Int.gcd a b : Nat) c : Int) = 1)) := by
  unfold okI gcI gcI gcI gcI
  rw [Nat.gcd_zero_right]
  have : (Nat.gcd a.natAbs (Nat.gcd b.natAbs c.natAbs) = 1) ↔ ((Int.gcd (Int.gcd a b : Nat) c : Nat) : Int) = 1 := by
    rw [← Nat.gcd_assoc]
    show (Nat.gcd (Int.gcd a b) c.natAbs = 1) ↔ _
    have e : Int.gcd (Int.gcd a b : Nat) c = Nat.gcd (Int.gcd a b) c.natAbs := by unfold Int.gcd; rw [Int.natAbs_natCast]
    rw [e]
    omega
  rw [Bool.eq_iff_iff]
  simp only [Bool.and_eq_true, decide_eq_true_iff, List.length_cons, List.length_nil, this]
  simp
/-! ### classes of exceptions that stand apart -/
def kits (K : PySem.W.Frag) (top : Addr) (cs : List Addr) : Bool := cs.all fun c => exC K c && PySem.W.exmOne K (.ref c) (.ref top) == some true && PySem.W.kitOne K (.ref c) (.type "ValueError") == some true && cs.all fun d => PySem.W.kitOne K (.ref c) (.ref d) == some (decide (c = d))
theorem kits_at {K : PySem.W.Frag} {top : Addr} {cs : List Addr} (h : kits K top cs = true) {c : Addr} (hc : c ∈ cs) : exC K c = true ∧ PySem.W.exmOne K (.ref c) (.ref top) = some true ∧ PySem.W.kitOne K (.ref c) (.type "ValueError") = some true ∧ ∀ d ∈ cs, PySem.W.kitOne K (.ref c) (.ref d) = some (decide (c = d)) := by
  unfold kits at h
  have := List.all_eq_true.mp h c hc
  simp only [Bool.and_eq_true, beq_iff_eq] at this
  exact ⟨this.1.1.1, this.1.1.2, this.1.2, fun d hd => beq_iff_eq.mp (List.all_eq_true.mp this.2 d hd)⟩
theorem nodup_at {cs : List Addr} (h : cs.Nodup) {i j : Nat} {a b : Addr} (ha : cs[i]? = some a) (hb : cs[j]? = some b) : decide (a = b) = decide (i = j) := by
  rw [decide_eq_decide]
  constructor
  · rintro rfl
    exact (List.getElem?_inj (List.getElem?_eq_some_iff.mp ha).1 h).mp (ha.trans hb.symm)
  · rintro rfl
    rw [ha] at hb
    exact Option.some.inj hb
end L2

set_option linter.all false
set_option maxRecDepth 100000
set_option maxHeartbeats 4000000
namespace L2
open PySem PySem.Spec PyProof.Rows
section
variable {X : Cx}
mutual
/-- no dicts, not too deep -/
def okE : Nat → D → Bool
  | _, .int _ => true
  | _, .bl _ => true
  | _, .non => true
  | _, .str s => PyData.strOk s
  | k + 1, .tup ds => okEs k ds
  | k + 1, .lst ds => okEs k ds
  | _, _ => false
def okEs : Nat → List D → Bool
  | _, [] => true
  | k, d :: r => okE k d && okEs k r
end
open PySem.SeqAt PyProof.V in
mutual
theorem okE_can : ∀ (k : Nat) (d : D), okE k d = true → (pd d).canLay0 = true ∧ (pd d).depth ≤ k ∧ noMix (pd d) (pd d) = true
  | k, .int n, _ => by cases k <;> simp [pd, PyData.canLay0, PyData.depth, noMix]
  | k, .str s, h => by
    have h' : PyData.strOk s = true := by cases k <;> exact h
    cases k <;> simp [pd, PyData.canLay0, PyData.depth, noMix, h']
  | k + 1, .tup ds, h => by
    have := okEs_can k ds (by simpa [okE] using h)
    simp only [pd, PyData.canLay0, PyData.depth, noMix]
    exact ⟨this.1, by omega, this.2.2⟩
  | k + 1, .lst ds, h => by
    have := okEs_can k ds (by simpa [okE] using h)
    simp only [pd, PyData.canLay0, PyData.depth, noMix]
    exact ⟨this.1, by omega, this.2.2⟩
  | 0, .tup ds, h => by cases h
  | 0, .lst ds, h => by cases h
  | k, .non, h => by cases k <;> simp [pd, PyData.canLay0, PyData.depth, noMix]
  | k, .bl b, h => by cases k <;> simp [pd, PyData.canLay0, PyData.depth, noMix]
  | k, .dct, h => by cases k <;> cases h
theorem okEs_can : ∀ (k : Nat) (ds : List D), okEs k ds = true → PyData.canLayAll0 (pds ds) = true ∧ PyData.depthAll (pds ds) ≤ k ∧ noMixAll (pds ds) (pds ds) = true
  | k, [], _ => by simp [pds, PyData.canLayAll0, PyData.depthAll, noMixAll]
  | k, d :: r, h => by
    have hh : okE k d = true ∧ okEs k r = true := by simpa [okEs] using h
    have h1 := okE_can k d hh.1
    have h2 := okEs_can k r hh.2
    simp only [pds, PyData.canLayAll0, PyData.depthAll, noMixAll, Bool.and_eq_true]
    exact ⟨⟨h1.1, h2.1⟩, by omega, h1.2.2, h2.2.2⟩
end
section
variable {pins : List (Addr × Obj)} {σ : St} {H : Hp} {s : Shared} {hd : Addr}
mutual
theorem Inv.datE (I : Inv X pins σ H s) : ∀ {k : Nat} {v : V} {d : D}, DAt hd H v d → okE k d = true → ∀ u, RelV v u → ∃ as, Reads s.heap u (pd d) as
  | _, _, _, .int n, _, _, r => by
    obtain ⟨t, rfl⟩ := (show ∃ t, _ = Value.int n t from r)
    exact ⟨_, Reads.int n t⟩
  | _, _, _, .str x _, _, _, r => by
    obtain ⟨t, rfl⟩ := (show ∃ t, _ = Value.str x t from r)
    exact ⟨_, Reads.str x t⟩
  | k + 1, _, _, .tup h t, e, _, r => by
    cases r
    obtain ⟨its, rv, p, _⟩ := I.tuple (SqT.of (K := X.K) h)
    obtain ⟨o, ho, hc, n, hd⟩ := p
    obtain ⟨as, ra⟩ := Inv.datsE I t (k := k) (by simpa [okE] using e) _ rv
    exact ⟨_, Reads.tuple ho hc hd (by simpa using ra)⟩
  | k + 1, _, _, .lst h _ t, e, _, r => by
    cases r
    obtain ⟨its, rv, pl, _⟩ := I.list (SqL.of (K := X.K) h)
    obtain ⟨o, ho, hc, n, hd⟩ := pl.isList
    obtain ⟨as, ra⟩ := Inv.datsE I t (k := k) (by simpa [okE] using e) _ rv
    exact ⟨_, Reads.list ho hc hd (by simpa using ra)⟩
  | 0, _, _, .tup _ _, e, _, _ => by cases e
  | 0, _, _, .lst _ _ _, e, _, _ => by cases e
  | k, _, _, .non, e, _, r => by
    cases r
    exact ⟨_, Reads.none⟩
  | k, _, _, .bl b, e, _, r => by
    cases r
    exact ⟨_, Reads.bool b⟩
  | k, _, _, .dct _, e, _, _ => by cases k <;> cases e
theorem Inv.datsE (I : Inv X pins σ H s) : ∀ {k : Nat} {vs : List V} {ds : List D}, DsAt hd H vs ds → okEs k ds = true → ∀ us, Vals vs us → ∃ as, ReadsAll s.heap us (pds ds) as
  | _, _, _, .nil, _, _, .nil => ⟨_, .nil⟩
  | k, _, _, .cons (d := d0) (ds := ds0) p q, e, _, .cons r t => by
    have hh : okE k d0 = true ∧ okEs k ds0 = true := by simpa [okEs] using e
    obtain ⟨as, h1⟩ := Inv.datE I p hh.1 _ r
    obtain ⟨bs, h2⟩ := Inv.datsE I q hh.2 _ t
    exact ⟨_, .cons h1 h2⟩
end
end
theorem op_eqE (hu : X.A.units + 64 < cLine) : OpR X (compareOp .Eq) (fun x y H Q => ∃ hd hd' d, DAt hd H x d ∧ DAt hd' H y d ∧ okE 20 d = true ∧ Q (.bl true) H) := by
  intro pins s σ H x y v u Q I rx ry h
  obtain ⟨hd, hd', d, h1, h2, ok, q⟩ := h
  obtain ⟨as, r1⟩ := I.datE h1 ok _ rx
  obtain ⟨bs, r2⟩ := I.datE h2 ok _ ry
  have c := okE_can 20 d ok
  have sh : PySem.SeqAt.shaped (pd d) = true := by
    show (PyData.canLay0 (pd d) && decide (PyData.depth (pd d) ≤ 64)) = true
    rw [Bool.and_eq_true]
    exact ⟨c.1, decide_eq_true (by omega)⟩
  refine PyProof.Rows.eq_dataH_same r1 r2 sh sh hu c.2.2 (fin_bl I q ?_)
  rw [same_self]
  all_goals rfl
end
theorem pe_fldEK {X : Cx} {e : Expr} {f : Str} {pos : Pos} {ta : TE} {K : PySem.W.Frag} (hK : X.K = K) (he : PE X e ta) (hb : attributeBase e f X.env (eval e X.env) = eval e X.env) : PE X (.Attribute e f pos) (tFldE K ta f) := by
  subst hK
  exact pe_fldE he hb
end L2

set_option maxHeartbeats 4000000
namespace My
open PySem PySem.Spec PyProof.Rows L2
def top (i : Nat) : Stmt := PySem.Challenge.pw_plymap_k19_whatever_things.main.body.getD i (.Pass ⟨0, 0, 0, 0⟩)
def s_BadLayer_init : Stmt := inClass (top 4) 0
def s_NoFace_init : Stmt := inClass (top 6) 0
def s_NoGround_init : Stmt := inClass (top 8) 0
def s_Taken_init : Stmt := inClass (top 10) 0
def s_NoLayer_init : Stmt := inClass (top 11) 0
def s_TooMany_init : Stmt := inClass (top 12) 0
def s_is_whole : Stmt := top 18
def s_divisor_of : Stmt := top 19
def s_fraction : Stmt := top 20
def s_is_fraction : Stmt := top 21
def s_point_by : Stmt := top 23
def s_is_point : Stmt := top 24
def s_l_hand : Stmt := top 26
def s_l_next : Stmt := top 27
def s_l_take : Stmt := top 28
def s_l_draw : Stmt := top 29
def s_l_divisor : Stmt := top 30
def s_l_lowest : Stmt := top 31
def s_l_point : Stmt := top 32
def s_l_number : Stmt := top 33
def s_l_any : Stmt := top 34
def s_l_spoilt : Stmt := top 35
def s_l_told : Stmt := top 36
def s_l_raised : Stmt := top 37
def s_l_sorts : Stmt := top 38
def s_l_apart : Stmt := top 39
def s_law : Stmt := top 40
structure Adr where
  f_BadLayer_init : Addr
  d_BadLayer_init : FuncData
  f_NoFace_init : Addr
  d_NoFace_init : FuncData
  f_NoGround_init : Addr
  d_NoGround_init : FuncData
  f_Taken_init : Addr
  d_Taken_init : FuncData
  f_NoLayer_init : Addr
  d_NoLayer_init : FuncData
  f_TooMany_init : Addr
  d_TooMany_init : FuncData
  f_is_whole : Addr
  d_is_whole : FuncData
  f_divisor_of : Addr
  d_divisor_of : FuncData
  f_fraction : Addr
  d_fraction : FuncData
  f_is_fraction : Addr
  d_is_fraction : FuncData
  f_point_by : Addr
  d_point_by : FuncData
  f_is_point : Addr
  d_is_point : FuncData
  f_l_hand : Addr
  d_l_hand : FuncData
  f_l_next : Addr
  d_l_next : FuncData
  f_l_take : Addr
  d_l_take : FuncData
  f_l_draw : Addr
  d_l_draw : FuncData
  f_l_divisor : Addr
  d_l_divisor : FuncData
  f_l_lowest : Addr
  d_l_lowest : FuncData
  f_l_point : Addr
  d_l_point : FuncData
  f_l_number : Addr
  d_l_number : FuncData
  f_l_any : Addr
  d_l_any : FuncData
  f_l_spoilt : Addr
  d_l_spoilt : FuncData
  f_l_told : Addr
  d_l_told : FuncData
  f_l_raised : Addr
  d_l_raised : FuncData
  f_l_sorts : Addr
  d_l_sorts : FuncData
  f_l_apart : Addr
  d_l_apart : FuncData
  f_law : Addr
  d_law : FuncData
  c_PlyError : Addr
  c_NoNumber : Addr
  c_NoPoint : Addr
  c_BadPlan : Addr
  c_Endless : Addr
  c_NoName : Addr
  c_BadWish : Addr
  c_NoSize : Addr
  c_NoText : Addr
  c_NoRow : Addr
  c_BadLayer : Addr
  c_NoFace : Addr
  c_NoGround : Addr
  c_Taken : Addr
  c_NoLayer : Addr
  c_TooMany : Addr
structure Txt (K : PySem.W.Frag) (mg : Str → Option Value) (t : Adr) : Prop where
  BadLayer_init : FnI K "__init__" "BadLayer.__init__" s_BadLayer_init t.f_BadLayer_init t.d_BadLayer_init ["self", "ring", "at"]
  NoFace_init : FnI K "__init__" "NoFace.__init__" s_NoFace_init t.f_NoFace_init t.d_NoFace_init ["self", "number"]
  NoGround_init : FnI K "__init__" "NoGround.__init__" s_NoGround_init t.f_NoGround_init t.d_NoGround_init ["self", "point"]
  Taken_init : FnI K "__init__" "Taken.__init__" s_Taken_init t.f_Taken_init t.d_Taken_init ["self", "name"]
  NoLayer_init : FnI K "__init__" "NoLayer.__init__" s_NoLayer_init t.f_NoLayer_init t.d_NoLayer_init ["self", "name"]
  TooMany_init : FnI K "__init__" "TooMany.__init__" s_TooMany_init t.f_TooMany_init t.d_TooMany_init ["self", "most"]
  is_whole : Fn K mg "is_whole" s_is_whole t.f_is_whole t.d_is_whole ["thing"]
  divisor_of : Fn K mg "divisor_of" s_divisor_of t.f_divisor_of t.d_divisor_of ["one", "other"]
  fraction : Fn K mg "fraction" s_fraction t.f_fraction t.d_fraction ["top", "bottom"]
  is_fraction : Fn K mg "is_fraction" s_is_fraction t.f_is_fraction t.d_is_fraction ["thing"]
  point_by : Fn K mg "point_by" s_point_by t.f_point_by t.d_point_by ["a", "b", "c"]
  is_point : Fn K mg "is_point" s_is_point t.f_is_point t.d_is_point ["thing"]
  l_hand : Fn K mg "_law_hand" s_l_hand t.f_l_hand t.d_l_hand ["_law_script"]
  l_next : Fn K mg "_law_next" s_l_next t.f_l_next t.d_l_next ["_law_hand_here"]
  l_take : Fn K mg "_law_take" s_l_take t.f_l_take t.d_l_take ["_law_hand_here"]
  l_draw : Fn K mg "_law_draw" s_l_draw t.f_l_draw t.d_l_draw ["_law_hand_here", "_law_many"]
  l_divisor : Fn K mg "_law_divisor" s_l_divisor t.f_l_divisor t.d_l_divisor ["_law_one", "_law_other"]
  l_lowest : Fn K mg "_law_lowest" s_l_lowest t.f_l_lowest t.d_l_lowest ["_law_top", "_law_bottom"]
  l_point : Fn K mg "_law_point" s_l_point t.f_l_point t.d_l_point ["_law_a", "_law_b", "_law_c"]
  l_number : Fn K mg "_law_number" s_l_number t.f_l_number t.d_l_number ["_law_hand_here"]
  l_any : Fn K mg "_law_any" s_l_any t.f_l_any t.d_l_any ["_law_hand_here"]
  l_spoilt : Fn K mg "_law_spoilt" s_l_spoilt t.f_l_spoilt t.d_l_spoilt ["_law_hand_here", "_law_good"]
  l_told : Fn K mg "_law_told" s_l_told t.f_l_told t.d_l_told ["_law_told_here", "_law_due"]
  l_raised : Fn K mg "_law_raised" s_l_raised t.f_l_raised t.d_l_raised ["_law_which", "_law_some"]
  l_sorts : Fn K mg "_law_sorts" s_l_sorts t.f_l_sorts t.d_l_sorts ["_law_which", "_law_some"]
  l_apart : Fn K mg "_law_apart" s_l_apart t.f_l_apart t.d_l_apart ["_law_which", "_law_some"]
  law : Fn K mg "law" s_law t.f_law t.d_law ["_law_script"]
  mx_BadLayer : exI K t.c_BadLayer t.f_BadLayer_init = true
  kx_BadLayer : PySem.W.keepIn K (.ref t.c_BadLayer) = true
  xc_BadLayer : XCls K t.c_BadLayer
  n_BadLayer_ring : NoAttr K t.c_BadLayer "ring"
  n_BadLayer_at : NoAttr K t.c_BadLayer "at"
  mx_NoFace : exI K t.c_NoFace t.f_NoFace_init = true
  kx_NoFace : PySem.W.keepIn K (.ref t.c_NoFace) = true
  xc_NoFace : XCls K t.c_NoFace
  n_NoFace_number : NoAttr K t.c_NoFace "number"
  mx_NoGround : exI K t.c_NoGround t.f_NoGround_init = true
  kx_NoGround : PySem.W.keepIn K (.ref t.c_NoGround) = true
  xc_NoGround : XCls K t.c_NoGround
  n_NoGround_point : NoAttr K t.c_NoGround "point"
  mx_Taken : exI K t.c_Taken t.f_Taken_init = true
  kx_Taken : PySem.W.keepIn K (.ref t.c_Taken) = true
  xc_Taken : XCls K t.c_Taken
  n_Taken_name : NoAttr K t.c_Taken "name"
  mx_NoLayer : exI K t.c_NoLayer t.f_NoLayer_init = true
  kx_NoLayer : PySem.W.keepIn K (.ref t.c_NoLayer) = true
  xc_NoLayer : XCls K t.c_NoLayer
  n_NoLayer_name : NoAttr K t.c_NoLayer "name"
  mx_TooMany : exI K t.c_TooMany t.f_TooMany_init = true
  kx_TooMany : PySem.W.keepIn K (.ref t.c_TooMany) = true
  xc_TooMany : XCls K t.c_TooMany
  n_TooMany_most : NoAttr K t.c_TooMany "most"
  b_ValueError : mg "ValueError" = none
  b_abs : mg "abs" = none
  b_all : mg "all" = none
  b_bool : mg "bool" = none
  b_int : mg "int" = none
  b_isinstance : mg "isinstance" = none
  b_len : mg "len" = none
  b_list : mg "list" = none
  b_range : mg "range" = none
  b_tuple : mg "tuple" = none
  m_PlyError : mg "PlyError" = some (.ref t.c_PlyError)
  m_NoNumber : mg "NoNumber" = some (.ref t.c_NoNumber)
  m_NoPoint : mg "NoPoint" = some (.ref t.c_NoPoint)
  m_BadPlan : mg "BadPlan" = some (.ref t.c_BadPlan)
  m_Endless : mg "Endless" = some (.ref t.c_Endless)
  m_NoName : mg "NoName" = some (.ref t.c_NoName)
  m_BadWish : mg "BadWish" = some (.ref t.c_BadWish)
  m_NoSize : mg "NoSize" = some (.ref t.c_NoSize)
  m_NoText : mg "NoText" = some (.ref t.c_NoText)
  m_NoRow : mg "NoRow" = some (.ref t.c_NoRow)
  m_BadLayer : mg "BadLayer" = some (.ref t.c_BadLayer)
  m_NoFace : mg "NoFace" = some (.ref t.c_NoFace)
  m_NoGround : mg "NoGround" = some (.ref t.c_NoGround)
  m_Taken : mg "Taken" = some (.ref t.c_Taken)
  m_NoLayer : mg "NoLayer" = some (.ref t.c_NoLayer)
  m_TooMany : mg "TooMany" = some (.ref t.c_TooMany)
  e_NoNumber : exK K t.c_NoNumber = true
  e_NoPoint : exK K t.c_NoPoint = true
  e_BadPlan : exK K t.c_BadPlan = true
  e_Endless : exK K t.c_Endless = true
  e_NoName : exK K t.c_NoName = true
  e_BadWish : exK K t.c_BadWish = true
  e_NoSize : exK K t.c_NoSize = true
  e_NoText : exK K t.c_NoText = true
  e_NoRow : exK K t.c_NoRow = true
  kits : kits K t.c_PlyError [t.c_NoNumber, t.c_NoPoint, t.c_BadLayer, t.c_BadPlan, t.c_NoFace, t.c_Endless, t.c_NoGround, t.c_NoName, t.c_Taken, t.c_NoLayer, t.c_TooMany, t.c_BadWish, t.c_NoSize, t.c_NoText, t.c_NoRow] = true
  nodu : decide (List.Nodup [t.c_NoNumber, t.c_NoPoint, t.c_BadLayer, t.c_BadPlan, t.c_NoFace, t.c_Endless, t.c_NoGround, t.c_NoName, t.c_Taken, t.c_NoLayer, t.c_TooMany, t.c_BadWish, t.c_NoSize, t.c_NoText, t.c_NoRow]) = true
section
variable {P : Program} {w : World} {K : PySem.W.Frag} {mg : Str → Option Value} {base : Heap} {t : Adr}
def sp_BadLayer_init (t : Adr) : Sp := spI t.c_BadLayer ["ring", "at"]
theorem sc_BadLayer_init : FnScope ["self", "ring", "at"] ["self", "ring", "at"] (defScope s_BadLayer_init) := ⟨rfl, rfl, rfl, by decide +kernel, rfl, by decide +kernel, by decide +kernel⟩
theorem ok_BadLayer_init (T : Txt K mg t) : FnOk P w K mg base CX0 1 t.f_BadLayer_init t.d_BadLayer_init ["self", "ring", "at"] (sp_BadLayer_init t) := by
  refine T.BadLayer_init.F.ok (k := 0) sc_BadLayer_init (fun vs H Q E h => ?_) (fun cdv A outer s H vs Q E hr h => ?_)
  · obtain ⟨a, tt, vs', rfl, _, hl, _⟩ := h
    rw [List.length_cons, hl]; rfl
  · obtain ⟨a, tt, vs', rfl, ha, hl, k⟩ := h
    refine ⟨_, (@pss_cons _ _ _ _ _ (@ps_fldE _ _ _ _ _ _ _ _ (pv 0) (pv 1) rfl) (@pss_one _ _ _ (@ps_fldE _ _ _ _ _ _ _ _ (pv 0) (pv 2) rfl))), ?_⟩
    match vs', hl with
    | [x, y], _ =>
    refine st_fldN (pu_v rfl) (pu_v rfl) ha T.xc_BadLayer T.n_BadLayer_ring fun dx h1 h2 => ?_
    refine st_fldO1 (dx := dx) (pu_v rfl) (pu_v rfl) (by rw [upd_ne (Ne.symm h2), upd_same]) h2 upd_same (by simp) T.xc_BadLayer T.n_BadLayer_at ?_
    rw [upd_upd]
    exact k dx h1 h2
def sp_NoFace_init (t : Adr) : Sp := spI t.c_NoFace ["number"]
theorem sc_NoFace_init : FnScope ["self", "number"] ["self", "number"] (defScope s_NoFace_init) := ⟨rfl, rfl, rfl, by decide +kernel, rfl, by decide +kernel, by decide +kernel⟩
theorem ok_NoFace_init (T : Txt K mg t) : FnOk P w K mg base CX0 1 t.f_NoFace_init t.d_NoFace_init ["self", "number"] (sp_NoFace_init t) := by
  refine T.NoFace_init.F.ok (k := 0) sc_NoFace_init (fun vs H Q E h => ?_) (fun cdv A outer s H vs Q E hr h => ?_)
  · obtain ⟨a, tt, vs', rfl, _, hl, _⟩ := h
    rw [List.length_cons, hl]; rfl
  · obtain ⟨a, tt, vs', rfl, ha, hl, k⟩ := h
    refine ⟨_, (@pss_one _ _ _ (@ps_fldE _ _ _ _ _ _ _ _ (pv 0) (pv 1) rfl)), ?_⟩
    match vs', hl with
    | [x], _ =>
    exact st_fldN1 (pu_v rfl) (pu_v rfl) ha T.xc_NoFace T.n_NoFace_number fun dx h1 h2 => k dx h1 h2
def sp_NoGround_init (t : Adr) : Sp := spI t.c_NoGround ["point"]
theorem sc_NoGround_init : FnScope ["self", "point"] ["self", "point"] (defScope s_NoGround_init) := ⟨rfl, rfl, rfl, by decide +kernel, rfl, by decide +kernel, by decide +kernel⟩
theorem ok_NoGround_init (T : Txt K mg t) : FnOk P w K mg base CX0 1 t.f_NoGround_init t.d_NoGround_init ["self", "point"] (sp_NoGround_init t) := by
  refine T.NoGround_init.F.ok (k := 0) sc_NoGround_init (fun vs H Q E h => ?_) (fun cdv A outer s H vs Q E hr h => ?_)
  · obtain ⟨a, tt, vs', rfl, _, hl, _⟩ := h
    rw [List.length_cons, hl]; rfl
  · obtain ⟨a, tt, vs', rfl, ha, hl, k⟩ := h
    refine ⟨_, (@pss_one _ _ _ (@ps_fldE _ _ _ _ _ _ _ _ (pv 0) (pv 1) rfl)), ?_⟩
    match vs', hl with
    | [x], _ =>
    exact st_fldN1 (pu_v rfl) (pu_v rfl) ha T.xc_NoGround T.n_NoGround_point fun dx h1 h2 => k dx h1 h2
def sp_Taken_init (t : Adr) : Sp := spI t.c_Taken ["name"]
theorem sc_Taken_init : FnScope ["self", "name"] ["self", "name"] (defScope s_Taken_init) := ⟨rfl, rfl, rfl, by decide +kernel, rfl, by decide +kernel, by decide +kernel⟩
theorem ok_Taken_init (T : Txt K mg t) : FnOk P w K mg base CX0 1 t.f_Taken_init t.d_Taken_init ["self", "name"] (sp_Taken_init t) := by
  refine T.Taken_init.F.ok (k := 0) sc_Taken_init (fun vs H Q E h => ?_) (fun cdv A outer s H vs Q E hr h => ?_)
  · obtain ⟨a, tt, vs', rfl, _, hl, _⟩ := h
    rw [List.length_cons, hl]; rfl
  · obtain ⟨a, tt, vs', rfl, ha, hl, k⟩ := h
    refine ⟨_, (@pss_one _ _ _ (@ps_fldE _ _ _ _ _ _ _ _ (pv 0) (pv 1) rfl)), ?_⟩
    match vs', hl with
    | [x], _ =>
    exact st_fldN1 (pu_v rfl) (pu_v rfl) ha T.xc_Taken T.n_Taken_name fun dx h1 h2 => k dx h1 h2
def sp_NoLayer_init (t : Adr) : Sp := spI t.c_NoLayer ["name"]
theorem sc_NoLayer_init : FnScope ["self", "name"] ["self", "name"] (defScope s_NoLayer_init) := ⟨rfl, rfl, rfl, by decide +kernel, rfl, by decide +kernel, by decide +kernel⟩
theorem ok_NoLayer_init (T : Txt K mg t) : FnOk P w K mg base CX0 1 t.f_NoLayer_init t.d_NoLayer_init ["self", "name"] (sp_NoLayer_init t) := by
  refine T.NoLayer_init.F.ok (k := 0) sc_NoLayer_init (fun vs H Q E h => ?_) (fun cdv A outer s H vs Q E hr h => ?_)
  · obtain ⟨a, tt, vs', rfl, _, hl, _⟩ := h
    rw [List.length_cons, hl]; rfl
  · obtain ⟨a, tt, vs', rfl, ha, hl, k⟩ := h
    refine ⟨_, (@pss_one _ _ _ (@ps_fldE _ _ _ _ _ _ _ _ (pv 0) (pv 1) rfl)), ?_⟩
    match vs', hl with
    | [x], _ =>
    exact st_fldN1 (pu_v rfl) (pu_v rfl) ha T.xc_NoLayer T.n_NoLayer_name fun dx h1 h2 => k dx h1 h2
def sp_TooMany_init (t : Adr) : Sp := spI t.c_TooMany ["most"]
theorem sc_TooMany_init : FnScope ["self", "most"] ["self", "most"] (defScope s_TooMany_init) := ⟨rfl, rfl, rfl, by decide +kernel, rfl, by decide +kernel, by decide +kernel⟩
theorem ok_TooMany_init (T : Txt K mg t) : FnOk P w K mg base CX0 1 t.f_TooMany_init t.d_TooMany_init ["self", "most"] (sp_TooMany_init t) := by
  refine T.TooMany_init.F.ok (k := 0) sc_TooMany_init (fun vs H Q E h => ?_) (fun cdv A outer s H vs Q E hr h => ?_)
  · obtain ⟨a, tt, vs', rfl, _, hl, _⟩ := h
    rw [List.length_cons, hl]; rfl
  · obtain ⟨a, tt, vs', rfl, ha, hl, k⟩ := h
    refine ⟨_, (@pss_one _ _ _ (@ps_fldE _ _ _ _ _ _ _ _ (pv 0) (pv 1) rfl)), ?_⟩
    match vs', hl with
    | [x], _ =>
    exact st_fldN1 (pu_v rfl) (pu_v rfl) ha T.xc_TooMany T.n_TooMany_most fun dx h1 h2 => k dx h1 h2
def wholeD (d : D) : Bool := d.isInt && !d.isBool
def sp_is_whole : Sp := fun vs H Q _ => ∃ hd v d, vs = [v] ∧ DAt hd H v d ∧ Q (.bl (wholeD d)) H
theorem sc_is_whole : FnScope ["thing"] ["thing"] (defScope s_is_whole) := ⟨rfl, rfl, rfl, by decide +kernel, rfl, by decide +kernel, by decide +kernel⟩
theorem ok_is_whole (T : Txt K mg t) : FnOk P w K mg base CX0 1 t.f_is_whole t.d_is_whole ["thing"] sp_is_whole := by
  refine T.is_whole.F.ok (k := 0) sc_is_whole (fun vs H Q E h => ?_) (fun cdv A outer s H vs Q E hr h => ?_)
  · obtain ⟨hd, v, d, rfl, _⟩ := h
    rfl
  · obtain ⟨hd, v, d, rfl, hv, k⟩ := h
    refine ⟨_, (@pss_one _ _ _ (@ps_ret _ _ _ _ (@pe_and _ _ _ _ _ _ _ (@pe_callB _ _ _ _ _ _ _ _ _ call_isinst (by rfl) T.b_isinstance PyProof.Rows.boot_isinstance (@pa_cons _ _ _ _ _ (pv 0) (@pa_cons _ _ _ _ _ (@pe_ty _ _ _ _ T.b_int PyProof.Rows.boot_int (by rfl) (by decide) (by decide)) (@pa_nil _) star_name) star_name) (by decide) (by decide) (by rfl) (by rfl)) (@pe_one _ _ _ _ _ (@pe_not _ _ _ _ (@pe_callB _ _ _ _ _ _ _ _ _ call_isinst (by rfl) T.b_isinstance PyProof.Rows.boot_isinstance (@pa_cons _ _ _ _ _ (pv 0) (@pa_cons _ _ _ _ _ (@pe_ty _ _ _ _ T.b_bool PyProof.Rows.boot_bool (by rfl) (by decide) (by decide)) (@pa_nil _) star_name) star_name) (by decide) (by decide) (by rfl) (by rfl))))))), ?_⟩
    exact st_ret (pu_and (pu_isi (pa_c (pu_v rfl) (pa_c pu_c pa_n)) hv.ty (kd_int d)) fun _ => pu_not (pu_isi (pa_c (pu_v rfl) (pa_c pu_c pa_n)) hv.ty (kd_bool d))) k
def sp_divisor_of : Sp := fun vs H Q _ => ∃ a b : Int, vs = [.int a, .int b] ∧ Q (.int (Int.gcd a b)) H
theorem sc_divisor_of : FnScope ["one", "other", "rest"] ["one", "other"] (defScope s_divisor_of) := ⟨rfl, rfl, rfl, by decide +kernel, rfl, by decide +kernel, by decide +kernel⟩
theorem ok_divisor_of (T : Txt K mg t) : FnOk P w K mg base CX0 1 t.f_divisor_of t.d_divisor_of ["one", "other"] sp_divisor_of := by
  refine T.divisor_of.F.ok (k := 0) sc_divisor_of (fun vs H Q E h => ?_) (fun cdv A outer s H vs Q E hr h => ?_)
  · obtain ⟨a, b, rfl, _⟩ := h
    rfl
  · obtain ⟨a, b, rfl, k⟩ := h
    refine ⟨_, (@pss_cons _ _ _ _ _ (@ps_set _ _ 0 _ _ _ _ sc_divisor_of.nd rfl (Or.inl rfl) (@pe_callB _ _ _ _ _ _ _ _ _ call_abs (by rfl) T.b_abs PyProof.Rows.boot_abs (@pa_cons _ _ _ _ _ (pv 0) (@pa_nil _) star_name) (by decide) (by decide) (by rfl) (by rfl)) (by rfl) (by first | exact .inl rfl | exact .inr rfl | assumption)) (@pss_cons _ _ _ _ _ (@ps_set _ _ 1 _ _ _ _ sc_divisor_of.nd rfl (Or.inl rfl) (@pe_callB _ _ _ _ _ _ _ _ _ call_abs (by rfl) T.b_abs PyProof.Rows.boot_abs (@pa_cons _ _ _ _ _ (pv 1) (@pa_nil _) star_name) (by decide) (by decide) (by rfl) (by rfl)) (by rfl) (by first | exact .inl rfl | exact .inr rfl | assumption)) (@pss_cons _ _ _ _ _ (@ps_while _ _ _ _ _ _ PassesOwn.never (@pt_cmpR _ _ _ _ _ _ _ _ op_ne (pv 1) (@pe_int _ _ _ _) (nomark _)) (@pss_cons _ _ _ _ _ (@ps_set _ _ 2 _ _ _ _ sc_divisor_of.nd rfl (Or.inl rfl) (@pe_op _ _ _ _ _ _ _ _ op_modN (pv 0) (pv 1)) (by rfl) (by first | exact .inl rfl | exact .inr rfl | assumption)) (@pss_cons _ _ _ _ _ (@ps_set _ _ 0 _ _ _ _ sc_divisor_of.nd rfl (Or.inl rfl) (pv 1) (by rfl) (by first | exact .inl rfl | exact .inr rfl | assumption)) (@pss_one _ _ _ (@ps_set _ _ 1 _ _ _ _ sc_divisor_of.nd rfl (Or.inl rfl) (pv 2) (by rfl) (by first | exact .inl rfl | exact .inr rfl | assumption)))))) (@pss_one _ _ _ (@ps_ret _ _ _ _ (pv 0)))))), ?_⟩
    refine st_set (pu_abs (pa_c (pu_v rfl) pa_n)) ?_
    refine st_set (pu_abs (pa_c (pu_v rfl) pa_n)) ?_
    refine st_while (fun σ H' => H' = H ∧ ∃ (x y : Int) (r : Option V), σ = [some (.int x), some (.int y), r] ∧ 0 ≤ x ∧ 0 ≤ y ∧ Int.gcd x y = Int.gcd a b) (fun σ _ => match σ with | [_, some (.int y), _] => y.toNat | _ => 0)
      ⟨rfl, a.natAbs, b.natAbs, none, rfl, by omega, by omega, rfl⟩ ?_
    rintro σ H' ⟨rfl, x, y, r, rfl, hx, hy, hg⟩
    refine ⟨_, pt_t (pu_neI (pu_v rfl) pu_c), fun e => ?_, fun e => ?_⟩
    · have e' : y ≠ 0 := by simpa using e
      have hm := fmod_lt (x := x) (show 0 < y by omega)
      refine st_set (pu_mod (pu_v rfl) (pu_v rfl) e') ?_
      refine st_set (pu_v rfl) ?_
      refine st_set1 (pu_v rfl) ?_
      exact ⟨⟨rfl, y, x.fmod y, _, rfl, hy, hm.1, by rw [gcd_step hx hy]; exact hg⟩, by show (x.fmod y).toNat < y.toNat; omega⟩
    · have e' : y = 0 := by simpa using e
      subst e'
      refine st_ret (pu_v rfl) ?_
      rw [← hg, gcd_zero x hx] at k
      exact k
theorem sc_fraction : FnScope ["top", "bottom", "shared"] ["top", "bottom"] (defScope s_fraction) := ⟨rfl, rfl, rfl, by decide +kernel, rfl, by decide +kernel, by decide +kernel⟩
def spx_fraction (t : Adr) : Sp := fun vs H Q E => ∃ a b : Int, vs = [.int a, .int b] ∧ (b = 0 → E (.ref t.c_NoNumber) none H) ∧ (b ≠ 0 → Bd 9000 b ∧ ∀ v H', Same H H' → TupT H' v [a.fdiv (gS a b), b.fdiv (gS a b)] → Q v H')
theorem okx_fraction (T : Txt K mg t) : FnOk P w K mg base (CXD P w) 2 t.f_fraction t.d_fraction ["top", "bottom"] (spx_fraction t) := by
  refine T.fraction.F.okD (k := 1) sc_fraction (fun vs H Q E h => ?_) (fun cdv A outer s H vs Q E hr h => ?_)
  · obtain ⟨a, b, rfl, _⟩ := h
    rfl
  · obtain ⟨a, b, rfl, k0, k1⟩ := h
    refine ⟨_, (@pss_cons _ _ _ _ _ (@ps_if _ _ _ _ _ _ _ _ (@pt_cmpR _ _ _ _ _ _ _ _ op_eq (pv 1) (@pe_int _ _ _ _) (nomark _)) (@pss_one _ _ _ (ps_raise0D T.e_NoNumber T.m_NoNumber rfl)) (@pss_nil _)) (@pss_cons _ _ _ _ _ (@ps_set _ _ 2 _ _ _ _ sc_fraction.nd rfl (Or.inl rfl) (@pe_fn _ _ _ _ _ _ _ _ _ _ _ _ _ _ T.divisor_of (ok_divisor_of T) hr (by decide) (@pa_cons _ _ _ _ _ (pv 0) (@pa_cons _ _ _ _ _ (pv 1) (@pa_nil _) star_name) star_name) (by rfl) (by decide) (by rfl) (by rfl)) (by rfl) (by first | exact .inl rfl | exact .inr rfl | assumption)) (@pss_cons _ _ _ _ _ (@ps_if _ _ _ _ _ _ _ _ (@pt_cmpR _ _ _ _ _ _ _ _ op_lt (pv 1) (@pe_int _ _ _ _) (nomark _)) (@pss_one _ _ _ (@ps_set _ _ 2 _ _ _ _ sc_fraction.nd rfl (Or.inl rfl) (@pe_un _ _ _ _ _ _ un_neg (pv 2)) (by rfl) (by first | exact .inl rfl | exact .inr rfl | assumption))) (@pss_nil _)) (@pss_one _ _ _ (@ps_ret _ _ _ _ (@pe_tup _ _ _ _ _ (@pa_cons _ _ _ _ _ (@pe_op _ _ _ _ _ _ _ _ op_fdivB (pv 0) (pv 2)) (@pa_cons _ _ _ _ _ (@pe_op _ _ _ _ _ _ _ _ op_fdivB (pv 1) (pv 2)) (@pa_nil _) star_bin) star_bin))))))), ?_⟩
    refine st_if (pt_t (pu_eqI (pu_v rfl) pu_c)) (fun e => k0 (by simpa using e)) fun e => ?_
    have hb : b ≠ 0 := by simpa using e
    obtain ⟨hB, k⟩ := k1 hb
    refine st_set (pu_call (pa_c (pu_v rfl) (pa_c (pu_v rfl) pa_n)) (fun Q q => ⟨a, b, rfl, q⟩)) ?_
    refine st_ifSet (R := fun v H' => H' = H ∧ v = .int (gS a b)) (v0 := .int (Int.gcd a b)) (pt_t (pu_lt (pu_v rfl) pu_c)) (fun e => (pu_neg (pu_v rfl)).gv' ⟨rfl, ?_⟩) rfl (fun e => ⟨rfl, ?_⟩) ?_
    · have e' : b < 0 := by simpa using e
      rw [gS, if_pos e']
    · have e' : ¬ b < 0 := by simpa using e
      rw [gS, if_neg e']
    rintro v H' ⟨rfl, rfl⟩
    refine st_retG (gv_tup (pa_c (pu_fdiv (pu_v rfl) (pu_v rfl) ⟨gS_ne hb, gS_bd hb hB⟩) (pa_c (pu_fdiv (pu_v rfl) (pu_v rfl) ⟨gS_ne hb, gS_bd hb hB⟩) pa_n)) (by show 2 ≤ sizeLine; decide)) ?_
    rintro v H1 ⟨p, hp, rfl, rfl⟩
    exact k _ _ (Same.upd hp) (TupT.of upd_same)
def wV : V → Bool
  | .int _ => true
  | _ => false
theorem wV_of {hd : Addr} {H : Hp} {v : V} {d : D} (h : DAt hd H v d) : wholeD d = wV v := by
  cases h <;> rfl
theorem wV_int {hd : Addr} {H : Hp} {v : V} {d : D} (h : DAt hd H v d) (e : wV v = true) : ∃ n : Int, v = .int n ∧ d = .int n := by
  cases h with
  | int n => exact ⟨n, rfl, rfl⟩
  | _ => cases e
theorem ds_whole {hd : Addr} {H : Hp} : ∀ {vs : List V} {ds : List D}, DsAt hd H vs ds → (vs.map wV).all id = true → ∃ ns : List Int, vs = ns.map V.int ∧ ds = ns.map D.int
  | _, _, .nil, _ => ⟨[], rfl, rfl⟩
  | _, _, .cons h t, e => by
    simp only [List.map_cons, List.all_cons, id, Bool.and_eq_true] at e
    obtain ⟨n, rfl, rfl⟩ := wV_int h e.1
    obtain ⟨ns, rfl, rfl⟩ := ds_whole t e.2
    exact ⟨n :: ns, rfl, rfl⟩
theorem ds_not {hd : Addr} {H : Hp} : ∀ {vs : List V} {ds : List D}, DsAt hd H vs ds → (vs.map wV).all id = false → intsD ds = none
  | _, _, .nil, e => by cases e
  | _, _, .cons h t, e => by
    cases h with
    | int n =>
      show (intsD _).map _ = none
      rw [ds_not t (by simpa [wV] using e)]
      rfl
    | _ => rfl
/-- all([is_whole(part) for part in thing]) -/
theorem gv_wholes {K : PySem.W.Frag} {σ : L2.St} {H : Hp} {tl : TE} {hd a : Addr} {xs : List V} {ds : List D} (hl : Pu tl σ H (.ref a)) (ha : H a = some (.tup xs)) (t : DsAt hd H xs ds) (hz : xs.length ≤ 1000) :
    Gv (tCB (fun xs H Q => ∃ (p : Addr) (bs : List Bool), xs = [.ref p] ∧ SqL K H p (bs.map V.bl) ∧ Q (.bl (bs.all id)) H) (tCons (tComp (iTup K tl) (fun _ => [none]) (gName 0) (tCall sp_is_whole [] E0 (tCons (tVar 0) tNil))) tNil)) σ H (fun v H' => Same H H' ∧ v = .bl ((xs.map wV).all id)) := by
  refine Gv.imp (gv_all (K := K) (xs.map wV) (gv_compP (fun v => .bl (wV v)) hl (SqT.of ha) hz (fun _ => KeepS.none1) fun x hx H' s => pu_call (pa_c (pu_v rfl) pa_n) fun Q q => ?_) ?_) ?_
  · obtain ⟨i, hi⟩ := List.getElem?_of_mem hx
    obtain ⟨d, _, hd'⟩ := t.get hi
    exact ⟨hd, x, d, rfl, hd'.same s, by rw [wV_of hd']; exact q⟩
  · rintro v H' ⟨D, hD, rfl, rfl⟩
    exact ⟨D, rfl, SqL.of (by rw [upd_same, List.map_map]; rfl)⟩
  · rintro v H' ⟨⟨p, D, hD, e1, rfl⟩, rfl⟩
    exact ⟨Same.upd hD, rfl⟩
def sp_is_fraction : Sp := fun vs H Q _ => ∃ hd v d, vs = [v] ∧ DAt hd H v d ∧ ∀ H', Same H H' → Q (.bl (okN 2 d)) H'
theorem sc_is_fraction : FnScope ["thing"] ["thing"] (defScope s_is_fraction) := ⟨rfl, rfl, rfl, by decide +kernel, rfl, by decide +kernel, by decide +kernel⟩
theorem ok_is_fraction (T : Txt K mg t) : FnOk P w K mg base CX0 2 t.f_is_fraction t.d_is_fraction ["thing"] sp_is_fraction := by
  refine T.is_fraction.F.ok (k := 1) sc_is_fraction (fun vs H Q E h => ?_) (fun cdv A outer s H vs Q E hr h => ?_)
  · obtain ⟨hd, v, d, rfl, _⟩ := h
    rfl
  · obtain ⟨hd, v, d, rfl, hv, k⟩ := h
    refine ⟨_, (@pss_cons _ _ _ _ _ (@ps_if _ _ _ _ _ _ _ _ (PW.pt (@pw_or _ _ _ _ _ _ _ (@pt_not _ _ _ _ (@pt_val _ _ _ (@pe_callB _ _ _ _ _ _ _ _ _ call_isinst (by rfl) T.b_isinstance PyProof.Rows.boot_isinstance (@pa_cons _ _ _ _ _ (pv 0) (@pa_cons _ _ _ _ _ (@pe_ty _ _ _ _ T.b_tuple PyProof.Rows.boot_tuple (by rfl) (by decide) (by decide)) (@pa_nil _) star_name) star_name) (by decide) (by decide) (by rfl) (by rfl)) (by intro _; rfl))) (@pw_or1 _ _ _ _ (@pt_cmpR _ _ _ _ _ _ _ _ op_ne (@pe_callB _ _ _ _ _ _ _ _ _ call_len_seq (by rfl) T.b_len PySem.boot_len (@pa_cons _ _ _ _ _ (pv 0) (@pa_nil _) star_name) (by decide) (by decide) (by rfl) (by rfl)) (@pe_int _ _ _ _) (nomark _))))) (@pss_one _ _ _ (@ps_ret _ _ _ _ (@pe_bl _ _ _ _))) (@pss_nil _)) (@pss_cons _ _ _ _ _ (@ps_if _ _ _ _ _ _ _ _ (@pt_not _ _ _ _ (@pt_val _ _ _ (@pe_callB _ _ _ _ _ _ _ _ _ (call_all rfl) (by rfl) T.b_all PyProof.Rows.boot_all (@pa_cons _ _ _ _ _ (@pe_lcomp _ _ _ _ _ [] _ ["part"] _ (fun _ => [none]) _ _ rfl (@pi_tup _ _ _ _ (pv 0)) (fun _ _ _ _ => pg_name (i := 0) (List.nodup_cons.mpr ⟨fun h => (nomatch h), List.nodup_nil⟩) rfl (Or.inl rfl) (.inr rfl)) (fun _ _ _ _ => (@pe_fn _ _ _ _ _ _ _ _ _ _ _ _ _ _ T.is_whole (ok_is_whole T) hr (by decide) (@pa_cons _ _ _ _ _ (pv 0) (@pa_nil _) star_name) (by rfl) (by decide) (by rfl) (by rfl))) (closureFor_none (by decide +kernel)) rfl (by decide +kernel) (by decide +kernel) (fun _ _ h => by cases h) (noCells (by rfl)) (fun _ _ => rfl) (fun _ i _ _ _ h => by cases i with | zero => cases h | succ i => simp at h) (by intro _; rfl)) (@pa_nil _) star_lc) (by decide) (by decide) (by rfl) (by rfl)) (by intro _; rfl))) (@pss_one _ _ _ (@ps_ret _ _ _ _ (@pe_bl _ _ _ _))) (@pss_nil _)) (@pss_one _ _ _ (@ps_ret _ _ _ _ (@pe_and _ _ _ _ _ _ _ (@pe_cmpR _ _ _ _ _ _ _ _ op_ge (@pe_ix _ _ _ _ _ _ _ ix_tup (pv 0) (@pe_int _ _ _ _) (fun _ _ => rfl)) (@pe_int _ _ _ _) (nomark _)) (@pe_one _ _ _ _ _ (@pe_cmpR _ _ _ _ _ _ _ _ op_eq (@pe_fn _ _ _ _ _ _ _ _ _ _ _ _ _ _ T.divisor_of (ok_divisor_of T) hr (by decide) (@pa_cons _ _ _ _ _ (@pe_ix _ _ _ _ _ _ _ ix_tup (pv 0) (@pe_int _ _ _ _) (fun _ _ => rfl)) (@pa_cons _ _ _ _ _ (@pe_ix _ _ _ _ _ _ _ ix_tup (pv 0) (@pe_int _ _ _ _) (fun _ _ => rfl)) (@pa_nil _) star_sub) star_sub) (by rfl) (by decide) (by rfl) (by rfl)) (@pe_int _ _ _ _) (nomark _)))))))), ?_⟩
    by_cases ht : d.isTup = true
    case neg =>
      have e0 : d.isTup = false := by simpa using ht
      refine st_ifN (b := true) (pt_or (b := true) (c := true) (pt_n (b := false) (pt_b (pu_isi (pa_c (pu_v rfl) (pa_c pu_c pa_n)) hv.ty (by rw [kd_tup, e0])))) (fun e => by cases e)) (fun _ => ?_) (fun e => by cases e)
      have e1 : okN 2 d = false := by cases d <;> first | rfl | cases e0
      rw [e1] at k
      exact st_ret pu_c (k _ Same.rfl')
    cases hv with
    | @tup a xs ds h td =>
      have hl := td.len
      refine st_ifN (pt_or (b := false) (c := !decide (xs.length = 2)) (pt_n (b := true) (pt_b (pu_isi (pa_c (pu_v rfl) (pa_c pu_c pa_n)) (.tup h) kit_same))) fun _ => pt_t (pu_cast (pu_neI (pu_lenT (pa_c (pu_v rfl) pa_n) (SqT.of h)) pu_c) (by congr 2; rw [decide_eq_decide]; omega))) (fun e => ?_) fun e => ?_
      · have e1 : ds.length ≠ 2 := by rw [← hl]; simpa using e
        rw [okN_len e1] at k
        exact st_ret pu_c (k _ Same.rfl')
      have e2 : xs.length = 2 := by simpa using e
      refine st_ifNG (R := fun b H' => b = !((xs.map wV).all id) ∧ Same H H') (gt_n (R := fun b H' => b = (xs.map wV).all id ∧ Same H H') (gt_b (R := fun v H' => Same H H' ∧ v = .bl ((xs.map wV).all id)) (gv_wholes (pu_v rfl) h td (by omega)) (fun v H' r => ⟨_, r.2⟩) |>.imp fun b H' r => ⟨by have := r.2; cases this; rfl, r.1⟩) |>.imp fun b H' r => ⟨by rw [← r.1]; simp, r.2⟩) (fun H' e => ?_) fun H' e => ?_
      · have e1 : (xs.map wV).all id = false := by have := e.1; simpa using this
        have e3 : okN 2 (.tup ds) = false := by
          show (match intsD ds with | some ns => okI 2 ns | none => false) = false
          rw [ds_not td e1]
        rw [e3] at k
        exact st_ret pu_c (k _ e.2)
      · have e1 : (xs.map wV).all id = true := by have := e.1; simpa using this
        obtain ⟨ns, rfl, rfl⟩ := ds_whole td e1
        rw [okN_ints] at k
        rw [List.length_map] at e2
        match ns, e2 with
        | [a', b], _ =>
        have ha1 := e.2 _ _ h
        refine st_ret (pu_and (pu_ge (pu_ixT (pu_v rfl) pu_c (SqT.of (ha1)) rfl) pu_c) fun _ => pu_eqI (pu_call (pa_c (pu_ixT (pu_v rfl) pu_c (SqT.of (ha1)) rfl) (pa_c (pu_ixT (pu_v rfl) pu_c (SqT.of (ha1)) rfl) pa_n)) fun Q q => ⟨a', b, rfl, q⟩) pu_c) ?_
        rw [okI2] at k
        exact k _ e.2
    | _ => cases ht
def spx_point_by (t : Adr) : Sp := fun vs H Q E => ∃ a b c : Int, vs = [.int a, .int b, .int c] ∧ (c = 0 → E (.ref t.c_NoPoint) none H) ∧ (c ≠ 0 → Bd 9000 c ∧ ∀ v H', Same H H' → AtP H' v (pbF a b c) → Q v H')
theorem gS3_bd {a b c : Int} (hc : c ≠ 0) (hB : Bd 9000 c) : Bd 9000 (gS3 a b c) := by
  have := Bd.gcd_right (a := ((Int.gcd a b : Nat) : Int)) hc hB
  unfold gS3; split
  · exact this.neg
  · exact this
theorem sc_point_by : FnScope ["a", "b", "c", "shared"] ["a", "b", "c"] (defScope s_point_by) := ⟨rfl, rfl, rfl, by decide +kernel, rfl, by decide +kernel, by decide +kernel⟩
theorem okx_point_by (T : Txt K mg t) : FnOk P w K mg base (CXD P w) 2 t.f_point_by t.d_point_by ["a", "b", "c"] (spx_point_by t) := by
  refine T.point_by.F.okD (k := 1) sc_point_by (fun vs H Q E h => ?_) (fun cdv A outer s H vs Q E hr h => ?_)
  · obtain ⟨a, b, c, rfl, _⟩ := h
    rfl
  · obtain ⟨a, b, c, rfl, k0, k1⟩ := h
    refine ⟨_, (@pss_cons _ _ _ _ _ (@ps_if _ _ _ _ _ _ _ _ (@pt_cmpR _ _ _ _ _ _ _ _ op_eq (pv 2) (@pe_int _ _ _ _) (nomark _)) (@pss_one _ _ _ (ps_raise0D T.e_NoPoint T.m_NoPoint rfl)) (@pss_nil _)) (@pss_cons _ _ _ _ _ (@ps_set _ _ 3 _ _ _ _ sc_point_by.nd rfl (Or.inl rfl) (@pe_fn _ _ _ _ _ _ _ _ _ _ _ _ _ _ T.divisor_of (ok_divisor_of T) hr (by decide) (@pa_cons _ _ _ _ _ (@pe_fn _ _ _ _ _ _ _ _ _ _ _ _ _ _ T.divisor_of (ok_divisor_of T) hr (by decide) (@pa_cons _ _ _ _ _ (pv 0) (@pa_cons _ _ _ _ _ (pv 1) (@pa_nil _) star_name) star_name) (by rfl) (by decide) (by rfl) (by rfl)) (@pa_cons _ _ _ _ _ (pv 2) (@pa_nil _) star_name) star_call) (by rfl) (by decide) (by rfl) (by rfl)) (by rfl) (by first | exact .inl rfl | exact .inr rfl | assumption)) (@pss_cons _ _ _ _ _ (@ps_if _ _ _ _ _ _ _ _ (@pt_cmpR _ _ _ _ _ _ _ _ op_lt (pv 2) (@pe_int _ _ _ _) (nomark _)) (@pss_one _ _ _ (@ps_set _ _ 3 _ _ _ _ sc_point_by.nd rfl (Or.inl rfl) (@pe_un _ _ _ _ _ _ un_neg (pv 3)) (by rfl) (by first | exact .inl rfl | exact .inr rfl | assumption))) (@pss_nil _)) (@pss_one _ _ _ (@ps_ret _ _ _ _ (@pe_tup _ _ _ _ _ (@pa_cons _ _ _ _ _ (@pe_op _ _ _ _ _ _ _ _ op_fdivB (pv 0) (pv 3)) (@pa_cons _ _ _ _ _ (@pe_op _ _ _ _ _ _ _ _ op_fdivB (pv 1) (pv 3)) (@pa_cons _ _ _ _ _ (@pe_op _ _ _ _ _ _ _ _ op_fdivB (pv 2) (pv 3)) (@pa_nil _) star_bin) star_bin) star_bin))))))), ?_⟩
    refine st_if (pt_t (pu_eqI (pu_v rfl) pu_c)) (fun e => k0 (by simpa using e)) fun e => ?_
    have hc : c ≠ 0 := by simpa using e
    obtain ⟨hB, k⟩ := k1 hc
    have hg := gS3_ne (a := a) (b := b) hc
    have hgb := gS3_bd (a := a) (b := b) hc hB
    refine st_set (pu_call (pa_c (pu_call (pa_c (pu_v rfl) (pa_c (pu_v rfl) pa_n)) (fun Q q => ⟨a, b, rfl, q⟩)) (pa_c (pu_v rfl) pa_n)) (fun Q q => ⟨_, c, rfl, q⟩)) ?_
    refine st_ifSet (R := fun v H' => H = H' ∧ v = .int (gS3 a b c)) (v0 := .int (Int.gcd ((Int.gcd a b : Nat) : Int) c)) (pt_t (pu_lt (pu_v rfl) pu_c)) (fun e => (pu_neg (pu_v rfl)).gv' ⟨rfl, ?_⟩) rfl (fun e => ⟨rfl, ?_⟩) ?_
    · rw [gS3, if_pos (of_decide_eq_true e)]
    · rw [gS3, if_neg (of_decide_eq_false e)]
    rintro v H' ⟨rfl, rfl⟩
    refine st_retG (gv_tup (pa_c (pu_fdiv (pu_v rfl) (pu_v rfl) ⟨hg, hgb⟩) (pa_c (pu_fdiv (pu_v rfl) (pu_v rfl) ⟨hg, hgb⟩) (pa_c (pu_fdiv (pu_v rfl) (pu_v rfl) ⟨hg, hgb⟩) pa_n))) (by show 3 ≤ sizeLine; decide)) ?_
    rintro _ _ ⟨p, hp, rfl, rfl⟩
    exact k _ _ (Same.upd hp) (TupT.of upd_same)
def sp_is_point : Sp := fun vs H Q _ => ∃ hd v d, vs = [v] ∧ DAt hd H v d ∧ ∀ H', Same H H' → Q (.bl (okN 3 d)) H'
theorem sc_is_point : FnScope ["thing"] ["thing"] (defScope s_is_point) := ⟨rfl, rfl, rfl, by decide +kernel, rfl, by decide +kernel, by decide +kernel⟩
theorem ok_is_point (T : Txt K mg t) : FnOk P w K mg base CX0 2 t.f_is_point t.d_is_point ["thing"] sp_is_point := by
  refine T.is_point.F.ok (k := 1) sc_is_point (fun vs H Q E h => ?_) (fun cdv A outer s H vs Q E hr h => ?_)
  · obtain ⟨hd, v, d, rfl, _⟩ := h
    rfl
  · obtain ⟨hd, v, d, rfl, hv, k⟩ := h
    refine ⟨_, (@pss_cons _ _ _ _ _ (@ps_if _ _ _ _ _ _ _ _ (PW.pt (@pw_or _ _ _ _ _ _ _ (@pt_not _ _ _ _ (@pt_val _ _ _ (@pe_callB _ _ _ _ _ _ _ _ _ call_isinst (by rfl) T.b_isinstance PyProof.Rows.boot_isinstance (@pa_cons _ _ _ _ _ (pv 0) (@pa_cons _ _ _ _ _ (@pe_ty _ _ _ _ T.b_tuple PyProof.Rows.boot_tuple (by rfl) (by decide) (by decide)) (@pa_nil _) star_name) star_name) (by decide) (by decide) (by rfl) (by rfl)) (by intro _; rfl))) (@pw_or1 _ _ _ _ (@pt_cmpR _ _ _ _ _ _ _ _ op_ne (@pe_callB _ _ _ _ _ _ _ _ _ call_len_seq (by rfl) T.b_len PySem.boot_len (@pa_cons _ _ _ _ _ (pv 0) (@pa_nil _) star_name) (by decide) (by decide) (by rfl) (by rfl)) (@pe_int _ _ _ _) (nomark _))))) (@pss_one _ _ _ (@ps_ret _ _ _ _ (@pe_bl _ _ _ _))) (@pss_nil _)) (@pss_cons _ _ _ _ _ (@ps_if _ _ _ _ _ _ _ _ (@pt_not _ _ _ _ (@pt_val _ _ _ (@pe_callB _ _ _ _ _ _ _ _ _ (call_all rfl) (by rfl) T.b_all PyProof.Rows.boot_all (@pa_cons _ _ _ _ _ (@pe_lcomp _ _ _ _ _ [] _ ["part"] _ (fun _ => [none]) _ _ rfl (@pi_tup _ _ _ _ (pv 0)) (fun _ _ _ _ => pg_name (i := 0) (List.nodup_cons.mpr ⟨fun h => (nomatch h), List.nodup_nil⟩) rfl (Or.inl rfl) (.inr rfl)) (fun _ _ _ _ => (@pe_fn _ _ _ _ _ _ _ _ _ _ _ _ _ _ T.is_whole (ok_is_whole T) hr (by decide) (@pa_cons _ _ _ _ _ (pv 0) (@pa_nil _) star_name) (by rfl) (by decide) (by rfl) (by rfl))) (closureFor_none (by decide +kernel)) rfl (by decide +kernel) (by decide +kernel) (fun _ _ h => by cases h) (noCells (by rfl)) (fun _ _ => rfl) (fun _ i _ _ _ h => by cases i with | zero => cases h | succ i => simp at h) (by intro _; rfl)) (@pa_nil _) star_lc) (by decide) (by decide) (by rfl) (by rfl)) (by intro _; rfl))) (@pss_one _ _ _ (@ps_ret _ _ _ _ (@pe_bl _ _ _ _))) (@pss_nil _)) (@pss_one _ _ _ (@ps_ret _ _ _ _ (@pe_and _ _ _ _ _ _ _ (@pe_cmpR _ _ _ _ _ _ _ _ op_ge (@pe_ix _ _ _ _ _ _ _ ix_tup (pv 0) (@pe_int _ _ _ _) (fun _ _ => rfl)) (@pe_int _ _ _ _) (nomark _)) (@pe_one _ _ _ _ _ (@pe_cmpR _ _ _ _ _ _ _ _ op_eq (@pe_fn _ _ _ _ _ _ _ _ _ _ _ _ _ _ T.divisor_of (ok_divisor_of T) hr (by decide) (@pa_cons _ _ _ _ _ (@pe_fn _ _ _ _ _ _ _ _ _ _ _ _ _ _ T.divisor_of (ok_divisor_of T) hr (by decide) (@pa_cons _ _ _ _ _ (@pe_ix _ _ _ _ _ _ _ ix_tup (pv 0) (@pe_int _ _ _ _) (fun _ _ => rfl)) (@pa_cons _ _ _ _ _ (@pe_ix _ _ _ _ _ _ _ ix_tup (pv 0) (@pe_int _ _ _ _) (fun _ _ => rfl)) (@pa_nil _) star_sub) star_sub) (by rfl) (by decide) (by rfl) (by rfl)) (@pa_cons _ _ _ _ _ (@pe_ix _ _ _ _ _ _ _ ix_tup (pv 0) (@pe_int _ _ _ _) (fun _ _ => rfl)) (@pa_nil _) star_sub) star_call) (by rfl) (by decide) (by rfl) (by rfl)) (@pe_int _ _ _ _) (nomark _)))))))), ?_⟩
    by_cases ht : d.isTup = true
    case neg =>
      have e0 : d.isTup = false := by simpa using ht
      refine st_ifN (b := true) (pt_or (b := true) (c := true) (pt_n (b := false) (pt_b (pu_isi (pa_c (pu_v rfl) (pa_c pu_c pa_n)) hv.ty (by rw [kd_tup, e0])))) (fun e => by cases e)) (fun _ => ?_) (fun e => by cases e)
      have e1 : okN 3 d = false := by cases d <;> first | rfl | cases e0
      rw [e1] at k
      exact st_ret pu_c (k _ Same.rfl')
    cases hv with
    | @tup a xs ds h td =>
      have hl := td.len
      refine st_ifN (pt_or (b := false) (c := !decide (xs.length = 3)) (pt_n (b := true) (pt_b (pu_isi (pa_c (pu_v rfl) (pa_c pu_c pa_n)) (.tup h) kit_same))) fun _ => pt_t (pu_cast (pu_neI (pu_lenT (pa_c (pu_v rfl) pa_n) (SqT.of h)) pu_c) (by congr 2; rw [decide_eq_decide]; omega))) (fun e => ?_) fun e => ?_
      · have e1 : ds.length ≠ 3 := by rw [← hl]; simpa using e
        rw [okN_len e1] at k
        exact st_ret pu_c (k _ Same.rfl')
      have e2 : xs.length = 3 := by simpa using e
      refine st_ifNG (R := fun b H' => b = !((xs.map wV).all id) ∧ Same H H') (gt_n (R := fun b H' => b = (xs.map wV).all id ∧ Same H H') (gt_b (R := fun v H' => Same H H' ∧ v = .bl ((xs.map wV).all id)) (gv_wholes (pu_v rfl) h td (by omega)) (fun v H' r => ⟨_, r.2⟩) |>.imp fun b H' r => ⟨by have := r.2; cases this; rfl, r.1⟩) |>.imp fun b H' r => ⟨by rw [← r.1]; simp, r.2⟩) (fun H' e => ?_) fun H' e => ?_
      · have e1 : (xs.map wV).all id = false := by have := e.1; simpa using this
        have e3 : okN 3 (.tup ds) = false := by
          show (match intsD ds with | some ns => okI 3 ns | none => false) = false
          rw [ds_not td e1]
        rw [e3] at k
        exact st_ret pu_c (k _ e.2)
      · have e1 : (xs.map wV).all id = true := by have := e.1; simpa using this
        obtain ⟨ns, rfl, rfl⟩ := ds_whole td e1
        rw [okN_ints] at k
        rw [List.length_map] at e2
        match ns, e2 with
        | [a', b, c], _ =>
        have ha1 := e.2 _ _ h
        refine st_ret (pu_and (pu_ge (pu_ixT (pu_v rfl) pu_c (SqT.of (ha1)) rfl) pu_c) fun _ => pu_eqI (pu_call (pa_c (pu_call (pa_c (pu_ixT (pu_v rfl) pu_c (SqT.of (ha1)) rfl) (pa_c (pu_ixT (pu_v rfl) pu_c (SqT.of (ha1)) rfl) pa_n)) fun Q q => ⟨a', b, rfl, q⟩) (pa_c (pu_ixT (pu_v rfl) pu_c (SqT.of (ha1)) rfl) pa_n)) fun Q q => ⟨_, c, rfl, q⟩) pu_c) ?_
        rw [okI3] at k
        exact k _ e.2
    | _ => cases ht
def sp_l_hand (K : PySem.W.Frag) : Sp := fun vs H Q _ => ∃ (a : Addr) (ns : List Int), vs = [.ref a] ∧ SqL K H a (ns.map V.int) ∧ ∀ hd sc H', Same H H' → H hd = none → HandAt H' hd sc → Q (.ref hd) H'
theorem sc_l_hand : FnScope ["_law_script"] ["_law_script"] (defScope s_l_hand) := ⟨rfl, rfl, rfl, by decide +kernel, rfl, by decide +kernel, by decide +kernel⟩
theorem ok_l_hand (T : Txt K mg t) : FnOk P w K mg base CX0 1 t.f_l_hand t.d_l_hand ["_law_script"] (sp_l_hand K) := by
  refine T.l_hand.F.ok (k := 0) sc_l_hand (fun vs H Q E h => ?_) (fun cdv A outer s H vs Q E hr h => ?_)
  · obtain ⟨a, ns, rfl, _⟩ := h
    rfl
  · obtain ⟨a, ns, rfl, hS, k⟩ := h
    refine ⟨_, (@pss_one _ _ _ (@ps_ret _ _ _ _ (@pe_lst _ _ _ _ (@pa_cons _ _ _ _ _ (@pe_callTy _ _ _ _ _ _ _ _ _ call_list_of (by rfl) T.b_list PyProof.Rows.boot_list (@pa_cons _ _ _ _ _ (@pe_slice _ _ _ _ _ _ _ _ _ _ sl_list (pv 0) (@po_none _) (@po_some _ _ _ (@pe_int _ _ _ _))) (@pa_nil _) star_sub) (by decide) (by decide) (by rfl) (by rfl)) (@pa_cons _ _ _ _ _ (@pe_int _ _ _ _) (@pa_cons _ _ _ _ _ (@pe_int _ _ _ _) (@pa_cons _ _ _ _ _ (@pe_int _ _ _ _) (@pa_cons _ _ _ _ _ (@pe_int _ _ _ _) (@pa_cons _ _ _ _ _ (@pe_int _ _ _ _) (@pa_nil _) star_con) star_con) star_con) star_con) star_con) star_call)))), ?_⟩
    refine ⟨_, rfl, 63, rfl, a, _, rfl, hS, fun p hp => ?_⟩
    refine ⟨p, _, rfl, .inl (SqL.of upd_same), fun l hl => ⟨by show 6 ≤ sizeLine; decide, fun hd hh => ?_⟩⟩
    have s1 : Same H (upd H p (.lst (cutV (ns.map V.int) none (some 63)))) := Same.upd hp
    have s2 : Same (upd H p (.lst (cutV (ns.map V.int) none (some 63)))) _ := Same.upd (o := .lst (cutV (ns.map V.int) none (some 63))) hl
    have s3 := s1.trans (s2.trans (Same.upd (o := .lst [.ref l, .int 0, .int 0, .int 0, .int 20011, .int 40009]) hh))
    refine k hd l _ s3 (s1.free (s2.free hh)) ⟨(ns.drop (HT.sIx (ns.map V.int).length 0 none)).take (HT.sIx (ns.map V.int).length (ns.map V.int).length (some 63) - HT.sIx (ns.map V.int).length 0 none), 0, 0, 0, 20011, 40009, upd_same, ?_, by decide⟩
    rw [upd_ne (ne_of_none upd_same hh), upd_same, List.map_take, List.map_drop]
    rfl
def sp_l_next : Sp := fun vs H Q _ => ∃ hd sc, vs = [.ref hd] ∧ HandAt H hd sc ∧ ∀ (n : Int) H', HandAt H' hd sc → SameB hd H H' → Q (.int n) H'
theorem sc_l_next : FnScope ["_law_hand_here"] ["_law_hand_here"] (defScope s_l_next) := ⟨rfl, rfl, rfl, by decide +kernel, rfl, by decide +kernel, by decide +kernel⟩
theorem ok_l_next (T : Txt K mg t) : FnOk P w K mg base CX0 1 t.f_l_next t.d_l_next ["_law_hand_here"] sp_l_next := by
  refine T.l_next.F.ok (k := 0) sc_l_next (fun vs H Q E h => ?_) (fun cdv A outer s H vs Q E hr h => ?_)
  · obtain ⟨hd, sc, rfl, _⟩ := h
    rfl
  · obtain ⟨hd, sc, rfl, ⟨ns, i, b, c, p, q, h1, h2, h0⟩, k⟩ := h
    have nsc := HandAt.ne h1 h2
    refine ⟨_, (@pss_cons _ _ _ _ _ (@ps_asg _ _ _ _ _ _ (@pe_op _ _ _ _ _ _ _ _ op_modN (@pe_op _ _ _ _ _ _ _ _ op_mulB (@pe_ix _ _ _ _ _ _ _ ix_list (pv 0) (@pe_int _ _ _ _) (fun _ _ => rfl)) (@pe_int _ _ _ _)) (@pe_int _ _ _ _)) (@pg_sub _ _ _ _ _ _ _ (pv 0) (@pe_int _ _ _ _) set_list (by intro _; rfl)) (by rfl) (by rfl) (by rfl)) (@pss_cons _ _ _ _ _ (@ps_asg _ _ _ _ _ _ (@pe_op _ _ _ _ _ _ _ _ op_modN (@pe_op _ _ _ _ _ _ _ _ op_mulB (@pe_ix _ _ _ _ _ _ _ ix_list (pv 0) (@pe_int _ _ _ _) (fun _ _ => rfl)) (@pe_int _ _ _ _)) (@pe_int _ _ _ _)) (@pg_sub _ _ _ _ _ _ _ (pv 0) (@pe_int _ _ _ _) set_list (by intro _; rfl)) (by rfl) (by rfl) (by rfl)) (@pss_one _ _ _ (@ps_ret _ _ _ _ (@pe_op _ _ _ _ _ _ _ _ op_add (@pe_ix _ _ _ _ _ _ _ ix_list (pv 0) (@pe_int _ _ _ _) (fun _ _ => rfl)) (@pe_ix _ _ _ _ _ _ _ ix_list (pv 0) (@pe_int _ _ _ _) (fun _ _ => rfl))))))), ?_⟩
    refine st_put (pu_mod (pu_mul (pu_ixL (pu_v rfl) pu_c (SqL.of h1) rfl) pu_c (IntMulOk.of_right (by decide))) pu_c (by decide)) (pu_v rfl) pu_c h1 rfl ?_
    refine st_put (pu_mod (pu_mul (pu_ixL (pu_v rfl) pu_c (SqL.of upd_same) rfl) pu_c (IntMulOk.of_right (by decide))) pu_c (by decide)) (pu_v rfl) pu_c upd_same rfl ?_
    refine st_ret (pu_add (pu_ixL (pu_v rfl) pu_c (SqL.of upd_same) rfl) (pu_ixL (pu_v rfl) pu_c (SqL.of upd_same) rfl)) ?_
    exact k _ _ ⟨ns, i, b, c, _, _, upd_same, by rw [upd_ne nsc, upd_ne nsc]; exact h2, h0⟩ (SameB.upd.trans SameB.upd)
def sp_l_take : Sp := fun vs H Q _ => ∃ hd sc, vs = [.ref hd] ∧ HandAt H hd sc ∧ ∀ H', HandAt H' hd sc → SameB hd H H' → Q .non H'
theorem sc_l_take : FnScope ["_law_hand_here", "_law_cell"] ["_law_hand_here"] (defScope s_l_take) := ⟨rfl, rfl, rfl, by decide +kernel, rfl, by decide +kernel, by decide +kernel⟩
theorem ok_l_take (T : Txt K mg t) : FnOk P w K mg base CX0 2 t.f_l_take t.d_l_take ["_law_hand_here"] sp_l_take := by
  refine T.l_take.F.ok (k := 1) sc_l_take (fun vs H Q E h => ?_) (fun cdv A outer s H vs Q E hr h => ?_)
  · obtain ⟨hd, sc, rfl, _⟩ := h
    rfl
  · obtain ⟨hd, sc, rfl, ⟨ns, i, b, c, p, q, h1, h2, h0⟩, k⟩ := h
    have nsc := HandAt.ne h1 h2
    refine ⟨_, (@pss_cons _ _ _ _ _ (@ps_set _ _ 1 _ _ _ _ sc_l_take.nd rfl (Or.inl rfl) (@pe_int _ _ _ _) (by rfl) (by first | exact .inl rfl | exact .inr rfl | assumption)) (@pss_cons _ _ _ _ _ (@ps_if _ _ _ _ _ _ _ _ (@pt_cmpR _ _ _ _ _ _ _ _ op_lt (@pe_ix _ _ _ _ _ _ _ ix_list (pv 0) (@pe_int _ _ _ _) (fun _ _ => rfl)) (@pe_callB _ _ _ _ _ _ _ _ _ call_len_seq (by rfl) T.b_len PySem.boot_len (@pa_cons _ _ _ _ _ (@pe_ix _ _ _ _ _ _ _ ix_list (pv 0) (@pe_int _ _ _ _) (fun _ _ => rfl)) (@pa_nil _) star_sub) (by decide) (by decide) (by rfl) (by rfl)) (nomark _)) (@pss_one _ _ _ (@ps_set _ _ 1 _ _ _ _ sc_l_take.nd rfl (Or.inl rfl) (@pe_callB _ _ _ _ _ _ _ _ _ call_abs (by rfl) T.b_abs PyProof.Rows.boot_abs (@pa_cons _ _ _ _ _ (@pe_ix _ _ _ _ _ _ _ ix_list (@pe_ix _ _ _ _ _ _ _ ix_list (pv 0) (@pe_int _ _ _ _) (fun _ _ => rfl)) (@pe_ix _ _ _ _ _ _ _ ix_list (pv 0) (@pe_int _ _ _ _) (fun _ _ => rfl)) (fun _ _ => rfl)) (@pa_nil _) star_sub) (by decide) (by decide) (by rfl) (by rfl)) (by rfl) (by first | exact .inl rfl | exact .inr rfl | assumption))) (@pss_nil _)) (@pss_cons _ _ _ _ _ (@ps_augS _ _ _ _ _ _ _ _ _ _ _ _ _ (pv 0) (@pe_int _ _ _ _) get_list (@pe_int _ _ _ _) ip_add set_list (by intros; rfl)) (@pss_cons _ _ _ _ _ (@ps_if _ _ _ _ _ _ _ _ (@pt_cmpR _ _ _ _ _ _ _ _ op_ge (pv 1) (@pe_op _ _ _ _ _ _ _ _ op_pow (@pe_int _ _ _ _) (@pe_int _ _ _ _)) (nomark _)) (@pss_one _ _ _ (@ps_asg _ _ _ _ _ _ (pv 1) (@pg_sub _ _ _ _ _ _ _ (pv 0) (@pe_int _ _ _ _) set_list (by intro _; rfl)) (by rfl) (by rfl) (by rfl))) (@pss_one _ _ _ (@ps_asg _ _ _ _ _ _ (@pe_int _ _ _ _) (@pg_sub _ _ _ _ _ _ _ (pv 0) (@pe_int _ _ _ _) set_list (by intro _; rfl)) (by rfl) (by rfl) (by rfl)))) (@pss_cons _ _ _ _ _ (@ps_asg _ _ _ _ _ _ (@pe_op _ _ _ _ _ _ _ _ op_add (@pe_op _ _ _ _ _ _ _ _ op_modN (@pe_op _ _ _ _ _ _ _ _ op_add (@pe_ix _ _ _ _ _ _ _ ix_list (pv 0) (@pe_int _ _ _ _) (fun _ _ => rfl)) (@pe_op _ _ _ _ _ _ _ _ op_modN (pv 1) (@pe_int _ _ _ _))) (@pe_int _ _ _ _)) (@pe_int _ _ _ _)) (@pg_sub _ _ _ _ _ _ _ (pv 0) (@pe_int _ _ _ _) set_list (by intro _; rfl)) (by rfl) (by rfl) (by rfl)) (@pss_cons _ _ _ _ _ (@ps_asg _ _ _ _ _ _ (@pe_op _ _ _ _ _ _ _ _ op_add (@pe_op _ _ _ _ _ _ _ _ op_modN (@pe_op _ _ _ _ _ _ _ _ op_add (@pe_op _ _ _ _ _ _ _ _ op_mulB (@pe_ix _ _ _ _ _ _ _ ix_list (pv 0) (@pe_int _ _ _ _) (fun _ _ => rfl)) (@pe_int _ _ _ _)) (@pe_op _ _ _ _ _ _ _ _ op_modN (pv 1) (@pe_int _ _ _ _))) (@pe_int _ _ _ _)) (@pe_int _ _ _ _)) (@pg_sub _ _ _ _ _ _ _ (pv 0) (@pe_int _ _ _ _) set_list (by intro _; rfl)) (by rfl) (by rfl) (by rfl)) (@pss_cons _ _ _ _ _ (@ps_expr _ _ _ _ (@pe_fn _ _ _ _ _ _ _ _ _ _ _ _ _ _ T.l_next (ok_l_next T) hr (by decide) (@pa_cons _ _ _ _ _ (pv 0) (@pa_nil _) star_name) (by rfl) (by decide) (by rfl) (by rfl)) (by rfl)) (@pss_one _ _ _ (@ps_expr _ _ _ _ (@pe_fn _ _ _ _ _ _ _ _ _ _ _ _ _ _ T.l_next (ok_l_next T) hr (by decide) (@pa_cons _ _ _ _ _ (pv 0) (@pa_nil _) star_name) (by rfl) (by decide) (by rfl) (by rfl)) (by rfl)))))))))), ?_⟩
    refine st_set pu_c ?_
    refine st_ifSet (R := fun v H' => H = H' ∧ ∃ cell : Int, v = .int cell) (v0 := .int 0) (pt_t (pu_lt (pu_ixL (pu_v rfl) pu_c (SqL.of h1) rfl) (pu_lenL (pa_c (pu_ixL (pu_v rfl) pu_c (SqL.of h1) rfl) pa_n) (SqL.of h2)))) (fun e => ?_) rfl (fun _ => ⟨rfl, 0, rfl⟩) ?_
    · have e' : i < ((ns.map V.int).length : Int) := by simpa using e
      rw [List.length_map] at e'
      obtain ⟨m, hm⟩ : ∃ m, ns[i.toNat]? = some m := ⟨_, List.getElem?_eq_getElem (by omega)⟩
      have hat : atI (ns.map V.int) i = some (.int m) := by
        have := atI_nat (xs := ns.map V.int) (j := i.toNat) (v := .int m) (by rw [List.getElem?_map, hm]; rfl)
        rwa [show ((i.toNat : Nat) : Int) = i by omega] at this
      exact (pu_abs (pa_c (pu_ixL (pu_ixL (pu_v rfl) pu_c (SqL.of h1) rfl) (pu_ixL (pu_v rfl) pu_c (SqL.of h1) rfl) (SqL.of h2) hat) pa_n)).gv' ⟨rfl, _, rfl⟩
    rintro v H' ⟨rfl, cell, rfl⟩
    refine st_augI (pu_v rfl) pu_c (by decide) h1 rfl pu_c rfl ?_
    refine st_if (pt_t (pu_ge (pu_v rfl) (pu_pow pu_c pu_c ⟨by decide, by decide, by decide⟩))) (fun _ => st_put1 (pu_v rfl) (pu_v rfl) pu_c upd_same rfl ?_) (fun _ => st_put1 pu_c (pu_v rfl) pu_c upd_same rfl ?_)
    all_goals
      refine st_put (pu_add (pu_mod (pu_add (pu_ixL (pu_v rfl) pu_c (SqL.of upd_same) rfl) (pu_mod (pu_v rfl) pu_c (by decide))) pu_c (by decide)) pu_c) (pu_v rfl) pu_c upd_same rfl ?_
      refine st_put (pu_add (pu_mod (pu_add (pu_mul (pu_ixL (pu_v rfl) pu_c (SqL.of upd_same) rfl) pu_c (IntMulOk.of_right (by decide))) (pu_mod (pu_v rfl) pu_c (by decide))) pu_c (by decide)) pu_c) (pu_v rfl) pu_c upd_same rfl ?_
      refine st_exprG (R := fun _ H' => HandAt H' hd sc ∧ SameB hd H H') (gv_call (pa_c (pu_v rfl) pa_n) fun Q f => ⟨hd, sc, rfl, ⟨ns, _, _, _, _, _, upd_same, by rw [upd_ne nsc, upd_ne nsc, upd_ne nsc, upd_ne nsc]; exact h2, (by omega : 0 ≤ i + 1)⟩, fun n H' a s => f _ _ ⟨a, ((SameB.upd.trans SameB.upd).trans (SameB.upd.trans SameB.upd)).trans s⟩⟩) ?_
      rintro _ H1 ⟨a1, s1⟩
      refine st_exprG1 (R := fun _ H' => HandAt H' hd sc ∧ SameB hd H H') (gv_call (pa_c (pu_v rfl) pa_n) fun Q f => ⟨hd, sc, rfl, a1, fun n H' a s => f _ _ ⟨a, s1.trans s⟩⟩) ?_
      rintro _ H2 ⟨a2, s2⟩
      exact k _ a2 s2
def sp_l_draw : Sp := fun vs H Q _ => ∃ hd sc m, vs = [.ref hd, .int m] ∧ HandAt H hd sc ∧ 0 < m ∧ Bd 9000 m ∧ ∀ (n : Int) H', 0 ≤ n → n < m → HandAt H' hd sc → SameB hd H H' → Q (.int n) H'
/-- draw(hand, m), m known -/
theorem gv_draw {σ : L2.St} {H : Hp} {hd sc : Addr} {t : TA} {m : Int} (hh : HandAt H hd sc) (ha : PuA t σ H [.ref hd, .int m]) (h0 : 0 < m) (hb : Bd 9000 m) : Gv (tCall sp_l_draw [] E0 t) σ H (fun v H' => (∃ n : Int, v = .int n ∧ 0 ≤ n ∧ n < m) ∧ HandAt H' hd sc ∧ SameB hd H H') :=
  gv_call ha fun Q f => ⟨hd, sc, m, rfl, hh, h0, hb, fun n H' z0 z1 a s => f _ _ ⟨⟨n, rfl, z0, z1⟩, a, s⟩⟩
theorem pick_of {xs : List V} {ys : List Int} {m : Int} (e : xs = ys.map V.int) (h : ∀ y ∈ ys, 0 < y ∧ y ≤ m) {n : Int} (h0 : 0 ≤ n) (h1 : n < ys.length) : ∃ y : Int, atI xs n = some (.int y) ∧ 0 < y ∧ y ≤ m := by
  subst e
  have hl : n.toNat < ys.length := by omega
  refine ⟨ys[n.toNat], ?_, h _ (List.getElem_mem hl)⟩
  have := atI_nat (xs := ys.map V.int) (j := n.toNat) (v := .int ys[n.toNat]) (by simp [hl])
  rwa [show ((n.toNat : Nat) : Int) = n by omega] at this
/-- [..][draw(hand, so many)] -/
theorem gv_pick {K : PySem.W.Frag} {σ : L2.St} {H : Hp} {hd sc : Addr} {t ta : TA} {ys : List Int} {m : Int} (hh : HandAt H hd sc) (hl : PuA ta σ H (ys.map V.int)) (hz : ys.length ≤ 1000) (h0 : 0 < ys.length) (hy : ∀ y ∈ ys, 0 < y ∧ y ≤ m)
    (ha : ∀ H', PuA t σ H' [.ref hd, .int (ys.length : Nat)]) : Gv (tOp (rIxL K) (tLst ta) (tCall sp_l_draw [] E0 t)) σ H (fun v H' => (∃ n : Int, v = .int n ∧ 0 < n ∧ n ≤ m) ∧ HandAt H' hd sc ∧ SameB hd H H') := by
  intro Q f
  refine gv_lst hl (by rw [List.length_map]; exact Nat.le_of_lt (small1000 hz)) _ ?_
  rintro _ _ ⟨p, hp, rfl, rfl⟩
  have s0 := Same.upd (o := .lst (ys.map V.int)) hp
  refine gv_draw (hh.same s0) (ha _) (by omega) (Bd.small (by omega)) _ ?_
  rintro _ H1 ⟨⟨n, rfl, z0, z1⟩, hh1, s1⟩
  obtain ⟨y, ey, y0, y1⟩ := pick_of (xs := ys.map V.int) rfl hy z0 z1
  obtain ⟨zs, hzs⟩ := hh.ls
  exact ⟨p, _, n, .int y, rfl, rfl, SqL.of (s1 _ _ upd_same (Ne.symm (ne_of_none hzs hp))), ey, f _ _ ⟨⟨y, rfl, y0, y1⟩, hh1, s0.b.trans s1⟩⟩
theorem sc_l_draw : FnScope ["_law_hand_here", "_law_many", "_law_got", "_law_value", "_law_size"] ["_law_hand_here", "_law_many"] (defScope s_l_draw) := ⟨rfl, rfl, rfl, by decide +kernel, rfl, by decide +kernel, by decide +kernel⟩
theorem ok_l_draw (T : Txt K mg t) : FnOk P w K mg base CX0 3 t.f_l_draw t.d_l_draw ["_law_hand_here", "_law_many"] sp_l_draw := by
  refine T.l_draw.F.ok (k := 2) sc_l_draw (fun vs H Q E h => ?_) (fun cdv A outer s H vs Q E hr h => ?_)
  · obtain ⟨hd, sc, m, rfl, _⟩ := h
    rfl
  · obtain ⟨hd, sc, m, rfl, hh, hm, hB, k⟩ := h
    refine ⟨_, (@pss_cons _ _ _ _ _ (@ps_if _ _ _ _ _ _ _ _ (PW.pt (@pw_and _ _ _ _ _ _ _ (@pt_cmpR _ _ _ _ _ _ _ _ op_eq (@pe_ix _ _ _ _ _ _ _ ix_list (pv 0) (@pe_int _ _ _ _) (fun _ _ => rfl)) (@pe_int _ _ _ _) (nomark _)) (@pw_and1 _ _ _ _ (@pt_cmpR _ _ _ _ _ _ _ _ op_eq (@pe_ix _ _ _ _ _ _ _ ix_list (pv 0) (@pe_int _ _ _ _) (fun _ _ => rfl)) (@pe_int _ _ _ _) (nomark _))))) (@pss_one _ _ _ (@ps_expr _ _ _ _ (@pe_fn _ _ _ _ _ _ _ _ _ _ _ _ _ _ T.l_take (ok_l_take T) hr (by decide) (@pa_cons _ _ _ _ _ (pv 0) (@pa_nil _) star_name) (by rfl) (by decide) (by rfl) (by rfl)) (by rfl))) (@pss_nil _)) (@pss_cons _ _ _ _ _ (@ps_if _ _ _ _ _ _ _ _ (@pt_cmpR _ _ _ _ _ _ _ _ op_gt (@pe_ix _ _ _ _ _ _ _ ix_list (pv 0) (@pe_int _ _ _ _) (fun _ _ => rfl)) (@pe_int _ _ _ _) (nomark _)) (@pss_cons _ _ _ _ _ (@ps_set _ _ 2 _ _ _ _ sc_l_draw.nd rfl (Or.inl rfl) (@pe_op _ _ _ _ _ _ _ _ op_modN (@pe_ix _ _ _ _ _ _ _ ix_list (pv 0) (@pe_int _ _ _ _) (fun _ _ => rfl)) (pv 1)) (by rfl) (by first | exact .inl rfl | exact .inr rfl | assumption)) (@pss_cons _ _ _ _ _ (@ps_asg _ _ _ _ _ _ (@pe_op _ _ _ _ _ _ _ _ op_fdivB (@pe_ix _ _ _ _ _ _ _ ix_list (pv 0) (@pe_int _ _ _ _) (fun _ _ => rfl)) (pv 1)) (@pg_sub _ _ _ _ _ _ _ (pv 0) (@pe_int _ _ _ _) set_list (by intro _; rfl)) (by rfl) (by rfl) (by rfl)) (@pss_one _ _ _ (@ps_ret _ _ _ _ (pv 2))))) (@pss_nil _)) (@pss_cons _ _ _ _ _ (@ps_augS _ _ _ _ _ _ _ _ _ _ _ _ _ (pv 0) (@pe_int _ _ _ _) get_list (@pe_int _ _ _ _) ip_sub set_list (by intros; rfl)) (@pss_cons _ _ _ _ _ (@ps_set _ _ 3 _ _ _ _ sc_l_draw.nd rfl (Or.inl rfl) (@pe_fn _ _ _ _ _ _ _ _ _ _ _ _ _ _ T.l_next (ok_l_next T) hr (by decide) (@pa_cons _ _ _ _ _ (pv 0) (@pa_nil _) star_name) (by rfl) (by decide) (by rfl) (by rfl)) (by rfl) (by first | exact .inl rfl | exact .inr rfl | assumption)) (@pss_cons _ _ _ _ _ (@ps_set _ _ 4 _ _ _ _ sc_l_draw.nd rfl (Or.inl rfl) (@pe_int _ _ _ _) (by rfl) (by first | exact .inl rfl | exact .inr rfl | assumption)) (@pss_cons _ _ _ _ _ (@ps_while _ _ _ _ _ _ PassesOwn.never (@pt_cmpR _ _ _ _ _ _ _ _ op_lt (pv 4) (pv 1) (nomark _)) (@pss_cons _ _ _ _ _ (@ps_set _ _ 3 _ _ _ _ sc_l_draw.nd rfl (Or.inl rfl) (@pe_op _ _ _ _ _ _ _ _ op_add (@pe_op _ _ _ _ _ _ _ _ op_mulB (pv 3) (@pe_int _ _ _ _)) (@pe_fn _ _ _ _ _ _ _ _ _ _ _ _ _ _ T.l_next (ok_l_next T) hr (by decide) (@pa_cons _ _ _ _ _ (pv 0) (@pa_nil _) star_name) (by rfl) (by decide) (by rfl) (by rfl))) (by rfl) (by first | exact .inl rfl | exact .inr rfl | assumption)) (@pss_one _ _ _ (@ps_set _ _ 4 _ _ _ _ sc_l_draw.nd rfl (Or.inl rfl) (@pe_op _ _ _ _ _ _ _ _ op_mulB (pv 4) (@pe_int _ _ _ _)) (by rfl) (by first | exact .inl rfl | exact .inr rfl | assumption))))) (@pss_one _ _ _ (@ps_ret _ _ _ _ (@pe_op _ _ _ _ _ _ _ _ op_modN (pv 3) (pv 1)))))))))), ?_⟩
    refine (show ∀ (H1 : Hp) (rest : TS) (D : Ends) (σ : L2.St) (tc : TT) (te : TE), (∃ b, PuT tc σ H b ∧ (b = true → Gv te σ H (fun _ H' => HandAt H' hd sc ∧ SameB hd H H'))) → (∀ H', HandAt H' hd sc → SameB hd H H' → rest D σ H') → tSeq (tIfS tc (tDrop te) tNext) rest D σ H from fun H1 rest D σ tc te ⟨b, hc, he⟩ q => st_if hc (fun e => st_exprG1 (he e) fun v H' r => q H' r.1 r.2) fun _ => q H hh (SameB.refl _ _)) H _ _ _ _ _ ?_ ?_
    · obtain ⟨ns, i, b, c, p, q, h1, h2, h0⟩ := id hh
      exact ⟨_, pt_and (pt_t (pu_eqI (pu_ixL (pu_v rfl) pu_c (SqL.of h1) rfl) pu_c)) fun _ => pt_t (pu_eqI (pu_ixL (pu_v rfl) pu_c (SqL.of h1) rfl) pu_c), fun _ => gv_call (pa_c (pu_v rfl) pa_n) fun Q f => ⟨hd, sc, rfl, hh, fun H' a s => f _ _ ⟨a, s⟩⟩⟩
    intro H1 hh1 s1
    obtain ⟨ns, i, b, c, p, q, h1, h2, h0⟩ := id hh1
    have nsc := HandAt.ne h1 h2
    refine st_if (pt_t (pu_gt (pu_ixL (pu_v rfl) pu_c (SqL.of h1) rfl) pu_c)) (fun _ => ?_) fun _ => ?_
    · refine st_set (pu_mod (pu_ixL (pu_v rfl) pu_c (SqL.of h1) rfl) (pu_v rfl) (by omega)) ?_
      refine st_put (pu_fdiv (pu_ixL (pu_v rfl) pu_c (SqL.of h1) rfl) (pu_v rfl) ⟨by omega, hB⟩) (pu_v rfl) pu_c h1 rfl ?_
      refine st_ret (pu_v rfl) ?_
      have hl := fmod_lt (x := b) hm
      exact k _ _ hl.1 hl.2 ⟨ns, i, _, c, p, q, upd_same, by rw [upd_ne nsc]; exact h2, h0⟩ (s1.trans SameB.upd)
    · refine st_augI (pu_v rfl) pu_c (by decide) h1 rfl pu_c rfl ?_
      have hh2 : HandAt (upd H1 hd (.lst [.ref sc, .int i, .int b, .int (c - 1), .int p, .int q])) hd sc := ⟨ns, i, b, c - 1, p, q, upd_same, by rw [upd_ne nsc]; exact h2, h0⟩
      refine st_setG (R := fun v H' => (∃ n : Int, v = .int n) ∧ HandAt H' hd sc ∧ SameB hd H H') (gv_call (pa_c (pu_v rfl) pa_n) fun Q f => ⟨hd, sc, rfl, hh2, fun n H' a s => f _ _ ⟨⟨n, rfl⟩, a, s1.trans (SameB.upd.trans s)⟩⟩) ?_
      rintro _ H3 ⟨⟨n, rfl⟩, hh3, s3⟩
      refine st_set pu_c ?_
      refine st_while (fun σ H' => HandAt H' hd sc ∧ SameB hd H H' ∧ ∃ (x y : Int) (r : Option V), σ = [some (.ref hd), some (.int m), r, some (.int x), some (.int y)] ∧ 0 < y) (fun σ _ => match σ with | [_, _, _, _, some (.int y)] => (m - y).toNat | _ => 0)
        ⟨hh3, s3, n, 4294967296, _, rfl, by decide⟩ ?_
      rintro σ H4 ⟨hh4, s4, x, y, r, rfl, hy⟩
      refine ⟨_, pt_t (pu_lt (pu_v rfl) (pu_v rfl)), fun e => ?_, fun e => ?_⟩
      · have e' : y < m := by simpa using e
        refine st_setG (R := fun v H' => (∃ n : Int, v = .int n) ∧ HandAt H' hd sc ∧ SameB hd H H') (fun Q f => pu_mul (pu_v rfl) pu_c (IntMulOk.of_right (by decide)) _ ?_) ?_
        · exact gv_call (sp := sp_l_next) (E := E0) (R := fun v H' => (∃ n : Int, v = .int n) ∧ HandAt H' hd sc ∧ SameB hd H H') (pa_c (pu_v rfl) pa_n) (fun Q f => ⟨hd, sc, rfl, hh4, fun n H' a s => f _ _ ⟨⟨n, rfl⟩, a, s4.trans s⟩⟩) _ fun v H' ⟨⟨n, e⟩, a, s⟩ => by
            subst e
            exact ⟨_, n, rfl, rfl, f _ _ ⟨⟨_, rfl⟩, a, s⟩⟩
        rintro _ H5 ⟨⟨z, rfl⟩, hh5, s5⟩
        refine st_set1 (pu_mul (pu_v rfl) pu_c (IntMulOk.of_right (by decide))) ?_
        exact ⟨⟨hh5, s5, z, y * 4294967296, r, rfl, by omega⟩, by show (m - y * 4294967296).toNat < (m - y).toNat; omega⟩
      · refine st_ret (pu_mod (pu_v rfl) (pu_v rfl) (by omega)) ?_
        have hl := fmod_lt (x := x) hm
        exact k _ _ hl.1 hl.2 hh4 s4
def sp_l_divisor : Sp := fun vs H Q _ => ∃ a b : Int, vs = [.int a, .int b] ∧ Q (.int (Int.gcd a b)) H
theorem sc_l_divisor : FnScope ["_law_one", "_law_other"] ["_law_one", "_law_other"] (defScope s_l_divisor) := ⟨rfl, rfl, rfl, by decide +kernel, rfl, by decide +kernel, by decide +kernel⟩
theorem ok_l_divisor (T : Txt K mg t) : FnOk P w K mg base CX0 1 t.f_l_divisor t.d_l_divisor ["_law_one", "_law_other"] sp_l_divisor := by
  refine T.l_divisor.F.ok (k := 0) sc_l_divisor (fun vs H Q E h => ?_) (fun cdv A outer s H vs Q E hr h => ?_)
  · obtain ⟨a, b, rfl, _⟩ := h
    rfl
  · obtain ⟨a, b, rfl, k⟩ := h
    refine ⟨_, (@pss_cons _ _ _ _ _ (@ps_set _ _ 0 _ _ _ _ sc_l_divisor.nd rfl (Or.inl rfl) (@pe_callB _ _ _ _ _ _ _ _ _ call_abs (by rfl) T.b_abs PyProof.Rows.boot_abs (@pa_cons _ _ _ _ _ (pv 0) (@pa_nil _) star_name) (by decide) (by decide) (by rfl) (by rfl)) (by rfl) (by first | exact .inl rfl | exact .inr rfl | assumption)) (@pss_cons _ _ _ _ _ (@ps_set _ _ 1 _ _ _ _ sc_l_divisor.nd rfl (Or.inl rfl) (@pe_callB _ _ _ _ _ _ _ _ _ call_abs (by rfl) T.b_abs PyProof.Rows.boot_abs (@pa_cons _ _ _ _ _ (pv 1) (@pa_nil _) star_name) (by decide) (by decide) (by rfl) (by rfl)) (by rfl) (by first | exact .inl rfl | exact .inr rfl | assumption)) (@pss_cons _ _ _ _ _ (@ps_while _ _ _ _ _ _ PassesOwn.never (@pt_cmpR _ _ _ _ _ _ _ _ op_gt (pv 1) (@pe_int _ _ _ _) (nomark _)) (@pss_one _ _ _ (@ps_par _ _ 0 1 _ _ _ _ _ _ _ _ _ _ _ rfl sc_l_divisor.nd rfl rfl (by decide) rfl rfl (@pa_cons _ _ _ _ _ (pv 1) (@pa_cons _ _ _ _ _ (@pe_op _ _ _ _ _ _ _ _ op_modN (pv 0) (pv 1)) (@pa_nil _) star_bin) star_name) (by rfl) (by rfl)))) (@pss_one _ _ _ (@ps_ret _ _ _ _ (pv 0)))))), ?_⟩
    refine st_set (pu_abs (pa_c (pu_v rfl) pa_n)) ?_
    refine st_set (pu_abs (pa_c (pu_v rfl) pa_n)) ?_
    refine st_while (fun σ H' => H' = H ∧ ∃ (x y : Int), σ = [some (.int x), some (.int y)] ∧ 0 ≤ x ∧ 0 ≤ y ∧ Int.gcd x y = Int.gcd a b) (fun σ _ => match σ with | [_, some (.int y)] => y.toNat | _ => 0)
      ⟨rfl, a.natAbs, b.natAbs, rfl, by omega, by omega, rfl⟩ ?_
    rintro σ H' ⟨rfl, x, y, rfl, hx, hy, hg⟩
    refine ⟨_, pt_t (pu_gt (pu_v rfl) pu_c), fun e => ?_, fun e => ?_⟩
    · have e' : 0 < y := by simpa using e
      have hm := fmod_lt (x := x) e'
      refine pa_c (pu_v rfl) (pa_c (pu_mod (pu_v rfl) (pu_v rfl) (by omega)) pa_n) _ ?_
      exact ⟨_, _, rfl, ⟨rfl, y, x.fmod y, rfl, hy, hm.1, by rw [gcd_step hx hy]; exact hg⟩, by show (x.fmod y).toNat < y.toNat; omega⟩
    · have e' : ¬ 0 < y := by simpa using e
      have e'' : y = 0 := by omega
      subst e''
      refine st_ret (pu_v rfl) ?_
      rw [← hg, gcd_zero x hx] at k
      exact k
def sp_l_lowest : Sp := fun vs H Q _ => ∃ a b : Int, vs = [.int a, .int b] ∧ b ≠ 0 ∧ Bd 9000 b ∧ ∀ v H', Same H H' → TupT H' v [a.fdiv (gS a b), b.fdiv (gS a b)] → Q v H'
theorem sc_l_lowest : FnScope ["_law_top", "_law_bottom", "_law_by"] ["_law_top", "_law_bottom"] (defScope s_l_lowest) := ⟨rfl, rfl, rfl, by decide +kernel, rfl, by decide +kernel, by decide +kernel⟩
theorem ok_l_lowest (T : Txt K mg t) : FnOk P w K mg base CX0 2 t.f_l_lowest t.d_l_lowest ["_law_top", "_law_bottom"] sp_l_lowest := by
  refine T.l_lowest.F.ok (k := 1) sc_l_lowest (fun vs H Q E h => ?_) (fun cdv A outer s H vs Q E hr h => ?_)
  · obtain ⟨a, b, rfl, _⟩ := h
    rfl
  · obtain ⟨a, b, rfl, hb, hB, k⟩ := h
    refine ⟨_, (@pss_cons _ _ _ _ _ (@ps_set _ _ 2 _ _ _ _ sc_l_lowest.nd rfl (Or.inl rfl) (@pe_fn _ _ _ _ _ _ _ _ _ _ _ _ _ _ T.l_divisor (ok_l_divisor T) hr (by decide) (@pa_cons _ _ _ _ _ (pv 0) (@pa_cons _ _ _ _ _ (pv 1) (@pa_nil _) star_name) star_name) (by rfl) (by decide) (by rfl) (by rfl)) (by rfl) (by first | exact .inl rfl | exact .inr rfl | assumption)) (@pss_cons _ _ _ _ _ (@ps_if _ _ _ _ _ _ _ _ (@pt_cmpR _ _ _ _ _ _ _ _ op_lt (pv 1) (@pe_int _ _ _ _) (nomark _)) (@pss_one _ _ _ (@ps_set _ _ 2 _ _ _ _ sc_l_lowest.nd rfl (Or.inl rfl) (@pe_op _ _ _ _ _ _ _ _ op_sub (@pe_int _ _ _ _) (pv 2)) (by rfl) (by first | exact .inl rfl | exact .inr rfl | assumption))) (@pss_nil _)) (@pss_one _ _ _ (@ps_ret _ _ _ _ (@pe_tup _ _ _ _ _ (@pa_cons _ _ _ _ _ (@pe_op _ _ _ _ _ _ _ _ op_fdivB (pv 0) (pv 2)) (@pa_cons _ _ _ _ _ (@pe_op _ _ _ _ _ _ _ _ op_fdivB (pv 1) (pv 2)) (@pa_nil _) star_bin) star_bin)))))), ?_⟩
    refine st_set (pu_call (pa_c (pu_v rfl) (pa_c (pu_v rfl) pa_n)) (fun Q q => ⟨a, b, rfl, q⟩)) ?_
    refine st_ifSet (R := fun v H' => H' = H ∧ v = .int (gS a b)) (v0 := .int (Int.gcd a b)) (pt_t (pu_lt (pu_v rfl) pu_c)) (fun e => (pu_sub pu_c (pu_v rfl)).gv' ⟨rfl, ?_⟩) rfl (fun e => ⟨rfl, ?_⟩) ?_
    · have e' : b < 0 := by simpa using e
      rw [gS, if_pos e', Int.zero_sub]
    · have e' : ¬ b < 0 := by simpa using e
      rw [gS, if_neg e']
    rintro v H' ⟨rfl, rfl⟩
    refine st_retG (gv_tup (pa_c (pu_fdiv (pu_v rfl) (pu_v rfl) ⟨gS_ne hb, gS_bd hb hB⟩) (pa_c (pu_fdiv (pu_v rfl) (pu_v rfl) ⟨gS_ne hb, gS_bd hb hB⟩) pa_n)) (by show 2 ≤ sizeLine; decide)) ?_
    rintro v H1 ⟨p, hp, rfl, rfl⟩
    exact k _ _ (Same.upd hp) (TupT.of upd_same)
def sp_l_point : Sp := fun vs H Q _ => ∃ a b c : Int, vs = [.int a, .int b, .int c] ∧ 0 < c ∧ Bd 9000 c ∧ ∀ v H' r, Same H H' → AtP H' v r → Is3 a b c r → Q v H'
theorem sc_l_point : FnScope ["_law_a", "_law_b", "_law_c", "_law_d"] ["_law_a", "_law_b", "_law_c"] (defScope s_l_point) := ⟨rfl, rfl, rfl, by decide +kernel, rfl, by decide +kernel, by decide +kernel⟩
theorem ok_l_point (T : Txt K mg t) : FnOk P w K mg base CX0 2 t.f_l_point t.d_l_point ["_law_a", "_law_b", "_law_c"] sp_l_point := by
  refine T.l_point.F.ok (k := 1) sc_l_point (fun vs H Q E h => ?_) (fun cdv A outer s H vs Q E hr h => ?_)
  · obtain ⟨a, b, c, rfl, _⟩ := h
    rfl
  · obtain ⟨a, b, c, rfl, hc, hB, k⟩ := h
    refine ⟨_, (@pss_cons _ _ _ _ _ (@ps_set _ _ 3 _ _ _ _ sc_l_point.nd rfl (Or.inl rfl) (@pe_fn _ _ _ _ _ _ _ _ _ _ _ _ _ _ T.l_divisor (ok_l_divisor T) hr (by decide) (@pa_cons _ _ _ _ _ (@pe_fn _ _ _ _ _ _ _ _ _ _ _ _ _ _ T.l_divisor (ok_l_divisor T) hr (by decide) (@pa_cons _ _ _ _ _ (pv 2) (@pa_cons _ _ _ _ _ (pv 0) (@pa_nil _) star_name) star_name) (by rfl) (by decide) (by rfl) (by rfl)) (@pa_cons _ _ _ _ _ (pv 1) (@pa_nil _) star_name) star_call) (by rfl) (by decide) (by rfl) (by rfl)) (by rfl) (by first | exact .inl rfl | exact .inr rfl | assumption)) (@pss_one _ _ _ (@ps_ret _ _ _ _ (@pe_tup _ _ _ _ _ (@pa_cons _ _ _ _ _ (@pe_op _ _ _ _ _ _ _ _ op_fdivB (pv 0) (pv 3)) (@pa_cons _ _ _ _ _ (@pe_op _ _ _ _ _ _ _ _ op_fdivB (pv 1) (pv 3)) (@pa_cons _ _ _ _ _ (@pe_op _ _ _ _ _ _ _ _ op_fdivB (pv 2) (pv 3)) (@pa_nil _) star_bin) star_bin) star_bin))))), ?_⟩
    obtain ⟨hi, hd⟩ := pt_has (a := a) (b := b) hc
    have hdB : Bd 9000 (Int.gcd (Int.gcd c a) b : Int) := by
      refine hB.le ?_
      have : (Int.gcd (Int.gcd c a) b : Nat) ≤ c.natAbs := by
        refine Nat.le_of_dvd (by omega) ?_
        refine Nat.dvd_trans (Int.gcd_dvd_natAbs_left _ _) ?_
        rw [Int.natAbs_natCast]
        exact Int.gcd_dvd_natAbs_left c a
      exact this
    refine st_set (pu_call (pa_c (pu_call (pa_c (pu_v rfl) (pa_c (pu_v rfl) pa_n)) (fun Q q => ⟨c, a, rfl, q⟩)) (pa_c (pu_v rfl) pa_n)) (fun Q q => ⟨_, b, rfl, q⟩)) ?_
    refine st_retG (gv_tup (pa_c (pu_fdiv (pu_v rfl) (pu_v rfl) ⟨by omega, hdB⟩) (pa_c (pu_fdiv (pu_v rfl) (pu_v rfl) ⟨by omega, hdB⟩) (pa_c (pu_fdiv (pu_v rfl) (pu_v rfl) ⟨by omega, hdB⟩) pa_n))) (by show 3 ≤ sizeLine; decide)) ?_
    rintro _ _ ⟨p, hp, rfl, rfl⟩
    exact k _ _ _ (Same.upd hp) (TupT.of upd_same) hi
def sp_l_number : Sp := fun vs H Q _ => ∃ hd sc, vs = [.ref hd] ∧ HandAt H hd sc ∧ ∀ (n : Int) H', Bd 200 n → HandAt H' hd sc → SameB hd H H' → Q (.int n) H'
theorem bd_size {y : Int} (h0 : 0 ≤ y) (h : y ≤ 10 ^ 60) : Bd 200 y := by
  unfold Bd
  have h2 : (10 : Int) ^ 60 < 2 ^ 200 := by decide
  have h3 : ((2 ^ 200 : Nat) : Int) = 2 ^ 200 := by decide
  omega
theorem gv_number {σ : L2.St} {H : Hp} {hd sc : Addr} {t : TA} (hh : HandAt H hd sc) (ha : PuA t σ H [.ref hd]) : Gv (tCall sp_l_number [] E0 t) σ H (fun v H' => (∃ n : Int, v = .int n ∧ Bd 200 n) ∧ HandAt H' hd sc ∧ SameB hd H H') :=
  gv_call ha fun Q f => ⟨hd, sc, rfl, hh, fun n H' hb a s => f _ _ ⟨⟨n, rfl, hb⟩, a, s⟩⟩
theorem sc_l_number : FnScope ["_law_hand_here", "_law_size"] ["_law_hand_here"] (defScope s_l_number) := ⟨rfl, rfl, rfl, by decide +kernel, rfl, by decide +kernel, by decide +kernel⟩
theorem ok_l_number (T : Txt K mg t) : FnOk P w K mg base CX0 4 t.f_l_number t.d_l_number ["_law_hand_here"] sp_l_number := by
  refine T.l_number.F.ok (k := 3) sc_l_number (fun vs H Q E h => ?_) (fun cdv A outer s H vs Q E hr h => ?_)
  · obtain ⟨hd, sc, rfl, _⟩ := h
    rfl
  · obtain ⟨hd, sc, rfl, hh, k⟩ := h
    refine ⟨_, (@pss_cons _ _ _ _ _ (@ps_set _ _ 1 _ _ _ _ sc_l_number.nd rfl (Or.inl rfl) (@pe_ix _ _ _ _ _ _ _ ix_list (@pe_lst _ _ _ _ (@pa_cons _ _ _ _ _ (@pe_int _ _ _ _) (@pa_cons _ _ _ _ _ (@pe_int _ _ _ _) (@pa_cons _ _ _ _ _ (@pe_int _ _ _ _) (@pa_cons _ _ _ _ _ (@pe_op _ _ _ _ _ _ _ _ op_pow (@pe_int _ _ _ _) (@pe_int _ _ _ _)) (@pa_cons _ _ _ _ _ (@pe_op _ _ _ _ _ _ _ _ op_pow (@pe_int _ _ _ _) (@pe_int _ _ _ _)) (@pa_nil _) star_bin) star_bin) star_con) star_con) star_con)) (@pe_fn _ _ _ _ _ _ _ _ _ _ _ _ _ _ T.l_draw (ok_l_draw T) hr (by decide) (@pa_cons _ _ _ _ _ (pv 0) (@pa_cons _ _ _ _ _ (@pe_int _ _ _ _) (@pa_nil _) star_con) star_name) (by rfl) (by decide) (by rfl) (by rfl)) (fun _ _ => rfl)) (by rfl) (by first | exact .inl rfl | exact .inr rfl | assumption)) (@pss_one _ _ _ (@ps_ret _ _ _ _ (@pe_op _ _ _ _ _ _ _ _ op_sub (@pe_fn _ _ _ _ _ _ _ _ _ _ _ _ _ _ T.l_draw (ok_l_draw T) hr (by decide) (@pa_cons _ _ _ _ _ (pv 0) (@pa_cons _ _ _ _ _ (@pe_op _ _ _ _ _ _ _ _ op_add (@pe_op _ _ _ _ _ _ _ _ op_mulB (@pe_int _ _ _ _) (pv 1)) (@pe_int _ _ _ _)) (@pa_nil _) star_bin) star_name) (by rfl) (by decide) (by rfl) (by rfl)) (pv 1))))), ?_⟩
    refine st_setG (gv_pick (ys := [2, 9, 1000, 10 ^ 18, 10 ^ 60]) (m := 10 ^ 60) hh (pa_c pu_c (pa_c pu_c (pa_c pu_c (pa_c (pu_pow pu_c pu_c ⟨by decide, by decide, by decide⟩) (pa_c (pu_pow pu_c pu_c ⟨by decide, by decide, by decide⟩) pa_n))))) (by decide) (by decide) (by decide) (fun _ => pa_c (pu_v rfl) (pa_c pu_c pa_n))) ?_
    rintro _ H1 ⟨⟨y, rfl, y0, y1⟩, hh1, s1⟩
    have hb := bd_size (Int.le_of_lt y0) y1
    have hb2 : Bd 202 (2 * y + 1) := by
      have h2 : (10 : Int) ^ 60 < 2 ^ 200 := by decide
      unfold Bd; omega
    refine st_retG (R := fun v H' => (∃ n : Int, v = .int n ∧ Bd 200 n) ∧ HandAt H' hd sc ∧ SameB hd H H') ?_ ?_
    · intro Q f
      refine gv_draw hh1 (pa_c (pu_v rfl) (pa_c (pu_add (pu_mul pu_c (pu_v rfl) (IntMulOk.of_left (by decide))) pu_c) pa_n)) (by omega) (hb2.mono (by decide)) _ ?_
      rintro _ H2 ⟨⟨n, rfl, z0, z1⟩, hh2, s2⟩
      refine pu_v (v := .int y) rfl _ ⟨n, y, rfl, rfl, f _ _ ⟨⟨_, rfl, ?_⟩, hh2, s1.trans s2⟩⟩
      unfold Bd at *; omega
    rintro _ H2 ⟨⟨n, rfl, hn⟩, hh2, s2⟩
    exact k n H2 hn hh2 s2
def sp_l_any : Sp := fun vs H Q _ => ∃ hd sc, vs = [.ref hd] ∧ HandAt H hd sc ∧ ∀ v ns H', TupT H' v ns → ns.length = 3 → okI 3 ns = true → HandAt H' hd sc → SameB hd H H' → Q v H'
theorem sc_l_any : FnScope ["_law_hand_here", "_law_a", "_law_b"] ["_law_hand_here"] (defScope s_l_any) := ⟨rfl, rfl, rfl, by decide +kernel, rfl, by decide +kernel, by decide +kernel⟩
theorem ok_l_any (T : Txt K mg t) : FnOk P w K mg base CX0 5 t.f_l_any t.d_l_any ["_law_hand_here"] sp_l_any := by
  refine T.l_any.F.ok (k := 4) sc_l_any (fun vs H Q E h => ?_) (fun cdv A outer s H vs Q E hr h => ?_)
  · obtain ⟨hd, sc, rfl, _⟩ := h
    rfl
  · obtain ⟨hd, sc, rfl, hh, k⟩ := h
    refine ⟨_, (@pss_cons _ _ _ _ _ (@ps_set _ _ 1 _ _ _ _ sc_l_any.nd rfl (Or.inl rfl) (@pe_fn _ _ _ _ _ _ _ _ _ _ _ _ _ _ T.l_number (ok_l_number T) hr (by decide) (@pa_cons _ _ _ _ _ (pv 0) (@pa_nil _) star_name) (by rfl) (by decide) (by rfl) (by rfl)) (by rfl) (by first | exact .inl rfl | exact .inr rfl | assumption)) (@pss_cons _ _ _ _ _ (@ps_set _ _ 2 _ _ _ _ sc_l_any.nd rfl (Or.inl rfl) (@pe_fn _ _ _ _ _ _ _ _ _ _ _ _ _ _ T.l_number (ok_l_number T) hr (by decide) (@pa_cons _ _ _ _ _ (pv 0) (@pa_nil _) star_name) (by rfl) (by decide) (by rfl) (by rfl)) (by rfl) (by first | exact .inl rfl | exact .inr rfl | assumption)) (@pss_one _ _ _ (@ps_ret _ _ _ _ (@pe_fn _ _ _ _ _ _ _ _ _ _ _ _ _ _ T.l_point (ok_l_point T) hr (by decide) (@pa_cons _ _ _ _ _ (pv 1) (@pa_cons _ _ _ _ _ (pv 2) (@pa_cons _ _ _ _ _ (@pe_op _ _ _ _ _ _ _ _ op_add (@pe_int _ _ _ _) (@pe_fn _ _ _ _ _ _ _ _ _ _ _ _ _ _ T.l_draw (ok_l_draw T) hr (by decide) (@pa_cons _ _ _ _ _ (pv 0) (@pa_cons _ _ _ _ _ (@pe_ix _ _ _ _ _ _ _ ix_list (@pe_lst _ _ _ _ (@pa_cons _ _ _ _ _ (@pe_int _ _ _ _) (@pa_cons _ _ _ _ _ (@pe_int _ _ _ _) (@pa_cons _ _ _ _ _ (@pe_int _ _ _ _) (@pa_cons _ _ _ _ _ (@pe_op _ _ _ _ _ _ _ _ op_pow (@pe_int _ _ _ _) (@pe_int _ _ _ _)) (@pa_nil _) star_bin) star_con) star_con) star_con)) (@pe_fn _ _ _ _ _ _ _ _ _ _ _ _ _ _ T.l_draw (ok_l_draw T) hr (by decide) (@pa_cons _ _ _ _ _ (pv 0) (@pa_cons _ _ _ _ _ (@pe_int _ _ _ _) (@pa_nil _) star_con) star_name) (by rfl) (by decide) (by rfl) (by rfl)) (fun _ _ => rfl)) (@pa_nil _) star_sub) star_name) (by rfl) (by decide) (by rfl) (by rfl))) (@pa_nil _) star_bin) star_name) star_name) (by rfl) (by decide) (by rfl) (by rfl)))))), ?_⟩
    refine st_setG (gv_number hh (pa_c (pu_v rfl) pa_n)) ?_
    rintro _ H1 ⟨⟨a, rfl, _⟩, hh1, s1⟩
    refine st_setG (gv_number hh1 (pa_c (pu_v rfl) pa_n)) ?_
    rintro _ H2 ⟨⟨b, rfl, _⟩, hh2, s2⟩
    refine st_retG (R := fun v H' => ∃ c r, 0 < c ∧ AtP H' v r ∧ Is3 a b c r ∧ HandAt H' hd sc ∧ SameB hd H2 H') (gv_callA (RA := fun vs H' => ∃ c : Int, vs = [.int a, .int b, .int c] ∧ 0 < c ∧ Bd 9000 c ∧ HandAt H' hd sc ∧ SameB hd H2 H') (fun Q q => ?_) (fun vs H3 z Q q => ?_)) ?_
    · refine pu_v rfl _ (pu_v rfl _ ?_)
      dsimp only [tCons, tOp, tC]
      refine gv_callA (RA := fun vs H' => ∃ m : Int, vs = [.ref hd, .int m] ∧ 0 < m ∧ m ≤ 10 ^ 18 ∧ HandAt H' hd sc ∧ SameB hd H2 H') (R := fun v H' => ∃ n : Int, v = .int n ∧ 0 ≤ n ∧ n < 10 ^ 18 ∧ HandAt H' hd sc ∧ SameB hd H2 H') (fun Q q => pu_v rfl _ (gv_pick (ys := [1, 3, 1000, 10 ^ 18]) (m := 10 ^ 18) hh2 (pa_c pu_c (pa_c pu_c (pa_c pu_c (pa_c (pu_pow pu_c pu_c ⟨by decide, by decide, by decide⟩) pa_n)))) (by decide) (by decide) (by decide) (fun _ => pa_c (pu_v rfl) (pa_c pu_c pa_n)) _ ?_)) (fun vs H3 z Q q => ?_) _ ?_
      · rintro _ H3 ⟨⟨m, rfl, m0, m1⟩, hh3, s3⟩
        exact q _ _ ⟨m, rfl, m0, m1, hh3, s3⟩
      · obtain ⟨m, rfl, m0, m1, hh3, s3⟩ := z
        exact ⟨hd, sc, m, rfl, hh3, m0, by unfold Bd; have h2 : (10 : Int) ^ 18 < 2 ^ 9000 := by decide +kernel
                                           have h3 : ((2 ^ 9000 : Nat) : Int) = 2 ^ 9000 := by decide +kernel
                                           omega, fun n H' z0 z1 a s => q _ _ ⟨n, rfl, z0, by omega, a, s3.trans s⟩⟩
      · rintro _ H3 ⟨n, rfl, n0, n1, hh3, s3⟩
        refine ⟨1, n, rfl, rfl, q _ _ ⟨1 + n, rfl, by omega, ?_, hh3, s3⟩⟩
        unfold Bd
        have h2 : (10 : Int) ^ 18 + 1 < 2 ^ 9000 := by decide +kernel
        have h3 : ((2 ^ 9000 : Nat) : Int) = 2 ^ 9000 := by decide +kernel
        omega
    · obtain ⟨c, rfl, c0, cb, hh3, s3⟩ := z
      exact ⟨a, b, c, rfl, c0, cb, fun v H' r s t i => q _ _ ⟨c, r, c0, t, i, hh3.same s, s3.trans s.b⟩⟩
    · rintro v H' ⟨c, r, c0, hr, hi, hh3, s3⟩
      refine k v [r.x, r.y, r.z] H' hr rfl ?_ hh3 (s1.trans (s2.trans s3))
      rw [okI3]
      have := hi.pos
      rw [gcd3_rot, hi.cop, decide_eq_true (show (1 : Int) ≤ r.z by omega)]
      rfl
theorem hand_put {H : Hp} {hd sc l : Addr} {o : HO} (h : HandAt H hd sc) (n1 : hd ≠ l) (n2 : sc ≠ l) : HandAt (upd H l o) hd sc := by
  obtain ⟨ns, i, b, c, p, q, h1, h2, h0⟩ := h
  exact ⟨ns, i, b, c, p, q, by rw [upd_ne n1]; exact h1, by rw [upd_ne n2]; exact h2, h0⟩
theorem hand_ne {H : Hp} {hd sc l : Addr} (h : HandAt H hd sc) (n : H l = none) : hd ≠ l ∧ sc ≠ l := by
  obtain ⟨ns, i, b, c, p, q, h1, h2, h0⟩ := h
  exact ⟨fun e => (by rw [e, n] at h1; cases h1), fun e => (by rw [e, n] at h2; cases h2)⟩
theorem sameB_none {H H' : Hp} {hd l : Addr} (s : SameB hd H H') (h : ∃ ys, H' hd = some (.lst ys)) (n : H' l = none) : H l = none := by
  cases e : H l with
  | none => rfl
  | some o =>
    by_cases z : l = hd
    · subst z
      obtain ⟨ys, h⟩ := h
      rw [n] at h; cases h
    · rw [s _ _ e z] at n; cases n
theorem ixN_last {n : Nat} (h : 0 < n) : ixN n (-1) = some (n - 1) := by
  unfold ixN
  rw [if_neg (by decide), if_pos (by omega)]
  congr 1
  omega
theorem set_last (ns : List Int) (h : 0 < ns.length) (x : Int) : (ns.set (ns.length - 1) x).getLastD 0 = x := by
  rw [List.getLastD_eq_getLast?, List.getLast?_eq_getElem?, List.length_set, List.getElem?_set_self (by omega)]
  rfl
theorem okI_low {m : Nat} {ns : List Int} (h : ns.getLastD 0 < 1) : okI m ns = false := by
  unfold okI
  rw [decide_eq_false (p := 1 ≤ ns.getLastD 0) (by omega)]
  simp
def bad8 : List D := [.bl true, .bl false, .non, .str (Str.ofString "1"), .str (Str.ofString ""), .tup [.int 1], .lst [.int 1], .lst []]
theorem bad8_no {d : D} (h : d ∈ bad8) : ∀ n, d ≠ .int n := by
  intro n e
  subst e
  simp [bad8] at h
/-- one of the eight is none the worse for a row that is written -/
theorem but8 {H : Hp} {hd l : Addr} {ns : List Int} {v w : V} {d : D} {xs : List V} (hl : H l = some (.lst (ns.map V.int))) (h : DAt hd H v d) (h8 : d ∈ bad8) (nn : 2 ≤ ns.length) : DAt hd (upd H l (.lst xs)) v d := by
  simp only [bad8, List.mem_cons, List.not_mem_nil, or_false] at h8
  rcases h8 with rfl | rfl | rfl | rfl | rfl | rfl | rfl | rfl
  · cases h; exact .bl _
  · cases h; exact .bl _
  · cases h; exact .non
  · cases h; rename_i hs; exact .str _ hs
  · cases h; rename_i hs; exact .str _ hs
  · cases h with
    | @tup a xs' ds h t =>
      cases t with
      | cons h1 t1 =>
        cases h1
        cases t1
        exact .tup (by rw [upd_ne (fun e => by rw [e, hl] at h; cases h)]; exact h) (.cons (.int 1) .nil)
  · cases h with
    | @lst a xs' ds h n t =>
      have hn : a ≠ l := fun e => by
        rw [e, hl] at h
        have e2 : ns.map V.int = xs' := HO.lst.inj (Option.some.inj h)
        have := t.len
        rw [← e2, List.length_map, List.length_singleton] at this
        omega
      cases t with
      | cons h1 t1 =>
        cases h1
        cases t1
        exact .lst (by rw [upd_ne hn]; exact h) n (.cons (.int 1) .nil)
  · cases h with
    | @lst a xs' ds h n t =>
      have hn : a ≠ l := fun e => by
        rw [e, hl] at h
        have e2 : ns.map V.int = xs' := HO.lst.inj (Option.some.inj h)
        have := t.len
        rw [← e2, List.length_map, List.length_nil] at this
        omega
      cases t
      exact .lst (by rw [upd_ne hn]; exact h) n .nil
def bad21 : List D := [.non, .bl true, .int 1, .int 0, .str (Str.ofString ""), .str (Str.ofString "1/2"), .lst [], .tup [], .tup [.int 1], .dct, .lst [.int 1, .int 2], .lst [.int 1, .int 2, .int 3], .dct, .dct] ++ [.dct, .str (Str.ofString "12"), .str (Str.ofString "123"), .tup [.int 2, .int (-4)], .tup [.int 2, .int 4, .int (-2)], .tup [.int 2, .int 4], .tup [.int 2, .int 4, .int 2]]
theorem bad21_no {d : D} (h : d ∈ bad21) {m : Nat} (hm : m = 2 ∨ m = 3) : okN m d = false := by
  have a : ∀ d ∈ bad21, okN 2 d = false ∧ okN 3 d = false := by
    intro d hd
    simp only [bad21, List.cons_append, List.nil_append, List.mem_cons, List.not_mem_nil, or_false] at hd
    rcases hd with rfl | rfl | rfl | rfl | rfl | rfl | rfl | rfl | rfl | rfl | rfl | rfl | rfl | rfl | rfl | rfl | rfl | rfl | rfl | rfl | rfl <;> exact ⟨rfl, rfl⟩
  rcases hm with rfl | rfl
  · exact (a d h).1
  · exact (a d h).2
def sp_l_spoilt : Sp := fun vs H Q _ => ∃ hd sc v ns, vs = [.ref hd, v] ∧ HandAt H hd sc ∧ TupT H v ns ∧ (ns.length = 2 ∨ ns.length = 3) ∧ okI ns.length ns = true ∧ ∀ p th b d H', H' p = some (.tup [th, .bl b]) → DAt hd H' th d → b = okN ns.length d → HandAt H' hd sc → SameB hd H H' → Q (.ref p) H'
theorem sc_l_spoilt : FnScope ["_law_hand_here", "_law_good", "_law_way", "_law_at", "_law_row", "_law_many", "_law_some"] ["_law_hand_here", "_law_good"] (defScope s_l_spoilt) := ⟨rfl, rfl, rfl, by decide +kernel, rfl, by decide +kernel, by decide +kernel⟩
theorem ok_l_spoilt (T : Txt K mg t) : FnOk P w K mg base CX0 4 t.f_l_spoilt t.d_l_spoilt ["_law_hand_here", "_law_good"] sp_l_spoilt := by
  refine T.l_spoilt.F.ok (k := 3) sc_l_spoilt (fun vs H Q E h => ?_) (fun cdv A outer s H vs Q E hr h => ?_)
  · obtain ⟨hd, sc, v, ns, rfl, _⟩ := h
    rfl
  · obtain ⟨hd, sc, v, ns, rfl, hh, ⟨a, rfl, ha⟩, l23, ok, k⟩ := h
    refine ⟨_, (@pss_cons _ _ _ _ _ (@ps_set _ _ 2 _ _ _ _ sc_l_spoilt.nd rfl (Or.inl rfl) (@pe_fn _ _ _ _ _ _ _ _ _ _ _ _ _ _ T.l_draw (ok_l_draw T) hr (by decide) (@pa_cons _ _ _ _ _ (pv 0) (@pa_cons _ _ _ _ _ (@pe_int _ _ _ _) (@pa_nil _) star_con) star_name) (by rfl) (by decide) (by rfl) (by rfl)) (by rfl) (by first | exact .inl rfl | exact .inr rfl | assumption)) (@pss_cons _ _ _ _ _ (@ps_set _ _ 3 _ _ _ _ sc_l_spoilt.nd rfl (Or.inl rfl) (@pe_fn _ _ _ _ _ _ _ _ _ _ _ _ _ _ T.l_draw (ok_l_draw T) hr (by decide) (@pa_cons _ _ _ _ _ (pv 0) (@pa_cons _ _ _ _ _ (@pe_callB _ _ _ _ _ _ _ _ _ call_len_seq (by rfl) T.b_len PySem.boot_len (@pa_cons _ _ _ _ _ (pv 1) (@pa_nil _) star_name) (by decide) (by decide) (by rfl) (by rfl)) (@pa_nil _) star_call) star_name) (by rfl) (by decide) (by rfl) (by rfl)) (by rfl) (by first | exact .inl rfl | exact .inr rfl | assumption)) (@pss_cons _ _ _ _ _ (@ps_set _ _ 4 _ _ _ _ sc_l_spoilt.nd rfl (Or.inl rfl) (@pe_callTy _ _ _ _ _ _ _ _ _ call_list_of (by rfl) T.b_list PyProof.Rows.boot_list (@pa_cons _ _ _ _ _ (pv 1) (@pa_nil _) star_name) (by decide) (by decide) (by rfl) (by rfl)) (by rfl) (by first | exact .inl rfl | exact .inr rfl | assumption)) (@pss_cons _ _ _ _ _ (@ps_if _ _ _ _ _ _ _ _ (@pt_cmpR _ _ _ _ _ _ _ _ op_eq (pv 2) (@pe_int _ _ _ _) (nomark _)) (@pss_one _ _ _ (@ps_ret _ _ _ _ (@pe_tup _ _ _ _ _ (@pa_cons _ _ _ _ _ (pv 4) (@pa_cons _ _ _ _ _ (@pe_bl _ _ _ _) (@pa_nil _) star_con) star_name)))) (@pss_nil _)) (@pss_cons _ _ _ _ _ (@ps_if _ _ _ _ _ _ _ _ (@pt_cmpR _ _ _ _ _ _ _ _ op_eq (pv 2) (@pe_int _ _ _ _) (nomark _)) (@pss_one _ _ _ (@ps_ret _ _ _ _ (@pe_tup _ _ _ _ _ (@pa_cons _ _ _ _ _ (@pe_callTy _ _ _ _ _ _ _ _ _ call_tuple_of (by rfl) T.b_tuple PyProof.Rows.boot_tuple (@pa_cons _ _ _ _ _ (@pe_op _ _ _ _ _ _ _ _ op_cat (pv 4) (@pe_lst _ _ _ _ (@pa_cons _ _ _ _ _ (@pe_op _ _ _ _ _ _ _ _ op_add (@pe_int _ _ _ _) (@pe_fn _ _ _ _ _ _ _ _ _ _ _ _ _ _ T.l_draw (ok_l_draw T) hr (by decide) (@pa_cons _ _ _ _ _ (pv 0) (@pa_cons _ _ _ _ _ (@pe_int _ _ _ _) (@pa_nil _) star_con) star_name) (by rfl) (by decide) (by rfl) (by rfl))) (@pa_nil _) star_bin))) (@pa_nil _) star_bin) (by decide) (by decide) (by rfl) (by rfl)) (@pa_cons _ _ _ _ _ (@pe_bl _ _ _ _) (@pa_nil _) star_con) star_call)))) (@pss_nil _)) (@pss_cons _ _ _ _ _ (@ps_if _ _ _ _ _ _ _ _ (@pt_cmpR _ _ _ _ _ _ _ _ op_eq (pv 2) (@pe_int _ _ _ _) (nomark _)) (@pss_one _ _ _ (@ps_ret _ _ _ _ (@pe_tup _ _ _ _ _ (@pa_cons _ _ _ _ _ (@pe_callTy _ _ _ _ _ _ _ _ _ call_tuple_of (by rfl) T.b_tuple PyProof.Rows.boot_tuple (@pa_cons _ _ _ _ _ (@pe_op _ _ _ _ _ _ _ _ op_cat (@pe_slice _ _ _ _ _ _ _ _ _ _ sl_list (pv 4) (@po_none _) (@po_some _ _ _ (pv 3))) (@pe_slice _ _ _ _ _ _ _ _ _ _ sl_list (pv 4) (@po_some _ _ _ (@pe_op _ _ _ _ _ _ _ _ op_add (pv 3) (@pe_int _ _ _ _))) (@po_none _))) (@pa_nil _) star_bin) (by decide) (by decide) (by rfl) (by rfl)) (@pa_cons _ _ _ _ _ (@pe_bl _ _ _ _) (@pa_nil _) star_con) star_call)))) (@pss_nil _)) (@pss_cons _ _ _ _ _ (@ps_if _ _ _ _ _ _ _ _ (@pt_cmpR _ _ _ _ _ _ _ _ op_eq (pv 2) (@pe_int _ _ _ _) (nomark _)) (@pss_one _ _ _ (@ps_asg _ _ _ _ _ _ (@pe_ix _ _ _ _ _ _ _ ix_list (@pe_lst _ _ _ _ (@pa_cons _ _ _ _ _ (@pe_bl _ _ _ _) (@pa_cons _ _ _ _ _ (@pe_bl _ _ _ _) (@pa_cons _ _ _ _ _ (@pe_non _ _ _) (@pa_cons _ _ _ _ _ (@pe_str _ _ _ _) (@pa_cons _ _ _ _ _ (@pe_str _ _ _ _) (@pa_cons _ _ _ _ _ (@pe_tup _ _ _ _ _ (@pa_cons _ _ _ _ _ (@pe_int _ _ _ _) (@pa_nil _) star_con)) (@pa_cons _ _ _ _ _ (@pe_lst _ _ _ _ (@pa_cons _ _ _ _ _ (@pe_int _ _ _ _) (@pa_nil _) star_con)) (@pa_cons _ _ _ _ _ (@pe_lst _ _ _ _ (@pa_nil _)) (@pa_nil _) star_lst) star_lst) star_tup) star_con) star_con) star_con) star_con) star_con)) (@pe_fn _ _ _ _ _ _ _ _ _ _ _ _ _ _ T.l_draw (ok_l_draw T) hr (by decide) (@pa_cons _ _ _ _ _ (pv 0) (@pa_cons _ _ _ _ _ (@pe_int _ _ _ _) (@pa_nil _) star_con) star_name) (by rfl) (by decide) (by rfl) (by rfl)) (fun _ _ => rfl)) (@pg_sub _ _ _ _ _ _ _ (pv 4) (pv 3) set_list (by intro _; rfl)) (by rfl) (by rfl) (by rfl))) (@pss_nil _)) (@pss_cons _ _ _ _ _ (@ps_if _ _ _ _ _ _ _ _ (@pt_cmpR _ _ _ _ _ _ _ _ op_eq (pv 2) (@pe_int _ _ _ _) (nomark _)) (@pss_one _ _ _ (@ps_asg _ _ _ _ _ _ (@pe_int _ _ _ _) (@pg_sub _ _ _ _ _ _ _ (pv 4) (@pe_un _ _ _ _ _ _ un_neg (@pe_int _ _ _ _)) set_list (by intro _; rfl)) (by rfl) (by rfl) (by rfl))) (@pss_nil _)) (@pss_cons _ _ _ _ _ (@ps_if _ _ _ _ _ _ _ _ (@pt_cmpR _ _ _ _ _ _ _ _ op_eq (pv 2) (@pe_int _ _ _ _) (nomark _)) (@pss_one _ _ _ (@ps_asg _ _ _ _ _ _ (@pe_op _ _ _ _ _ _ _ _ op_sub (@pe_int _ _ _ _) (@pe_ix _ _ _ _ _ _ _ ix_list (pv 4) (@pe_un _ _ _ _ _ _ un_neg (@pe_int _ _ _ _)) (fun _ _ => rfl))) (@pg_sub _ _ _ _ _ _ _ (pv 4) (@pe_un _ _ _ _ _ _ un_neg (@pe_int _ _ _ _)) set_list (by intro _; rfl)) (by rfl) (by rfl) (by rfl))) (@pss_nil _)) (@pss_cons _ _ _ _ _ (@ps_if _ _ _ _ _ _ _ _ (@pt_cmpR _ _ _ _ _ _ _ _ op_eq (pv 2) (@pe_int _ _ _ _) (nomark _)) (@pss_cons _ _ _ _ _ (@ps_set _ _ 5 _ _ _ _ sc_l_spoilt.nd rfl (Or.inr rfl) (@pe_op _ _ _ _ _ _ _ _ op_add (@pe_int _ _ _ _) (@pe_fn _ _ _ _ _ _ _ _ _ _ _ _ _ _ T.l_draw (ok_l_draw T) hr (by decide) (@pa_cons _ _ _ _ _ (pv 0) (@pa_cons _ _ _ _ _ (@pe_op _ _ _ _ _ _ _ _ op_pow (@pe_int _ _ _ _) (@pe_int _ _ _ _)) (@pa_nil _) star_bin) star_name) (by rfl) (by decide) (by rfl) (by rfl))) (by rfl) (by first | exact .inl rfl | exact .inr rfl | assumption)) (@pss_one _ _ _ (@ps_setC _ 4 _ _ _ _ _ _ _ _ _ sc_l_spoilt.nd rfl rfl (@cr_lcompC _ "_law_part" "_law_many" _ _ _ _ _ _ _ _ 5 rfl (@pi_list _ _ _ _ (pv 4)) (fun _ _ _ _ => pg_name (i := 0) (show (["_law_part", "_law_many"] : List Str).Nodup from by decide +kernel) rfl (Or.inl rfl) (.inr rfl)) (fun _ _ _ _ => (@pe_op _ _ _ _ _ _ _ _ op_mulB (pv 0) (pv 1))) rfl rfl (by decide +kernel) (by decide +kernel) rfl rfl rfl rfl rfl (by intro _; rfl)) (by rfl)))) (@pss_nil _)) (@pss_cons _ _ _ _ _ (@ps_if _ _ _ _ _ _ _ _ (@pt_cmpR _ _ _ _ _ _ _ _ op_eq (pv 2) (@pe_int _ _ _ _) (nomark _)) (@pss_cons _ _ _ _ _ (@ps_set _ _ 6 _ _ _ _ sc_l_spoilt.nd rfl (Or.inl rfl) (@pe_lst _ _ _ _ (@pa_cons _ _ _ _ _ (@pe_non _ _ _) (@pa_cons _ _ _ _ _ (@pe_bl _ _ _ _) (@pa_cons _ _ _ _ _ (@pe_int _ _ _ _) (@pa_cons _ _ _ _ _ (@pe_int _ _ _ _) (@pa_cons _ _ _ _ _ (@pe_str _ _ _ _) (@pa_cons _ _ _ _ _ (@pe_str _ _ _ _) (@pa_cons _ _ _ _ _ (@pe_lst _ _ _ _ (@pa_nil _)) (@pa_cons _ _ _ _ _ (@pe_tup _ _ _ _ _ (@pa_nil _)) (@pa_cons _ _ _ _ _ (@pe_tup _ _ _ _ _ (@pa_cons _ _ _ _ _ (@pe_int _ _ _ _) (@pa_nil _) star_con)) (@pa_cons _ _ _ _ _ pe_dnewK (@pa_cons _ _ _ _ _ (@pe_lst _ _ _ _ (@pa_cons _ _ _ _ _ (@pe_int _ _ _ _) (@pa_cons _ _ _ _ _ (@pe_int _ _ _ _) (@pa_nil _) star_con) star_con)) (@pa_cons _ _ _ _ _ (@pe_lst _ _ _ _ (@pa_cons _ _ _ _ _ (@pe_int _ _ _ _) (@pa_cons _ _ _ _ _ (@pe_int _ _ _ _) (@pa_cons _ _ _ _ _ (@pe_int _ _ _ _) (@pa_nil _) star_con) star_con) star_con)) (@pa_cons _ _ _ _ _ (pe_disp (pps_cons (@pe_str _ _ _ _) (@pe_int _ _ _ _) pps_nil) rfl rfl (by decide) (by decide)) (@pa_cons _ _ _ _ _ (pe_disp (pps_cons (@pe_int _ _ _ _) (@pe_int _ _ _ _) (pps_cons (@pe_int _ _ _ _) (@pe_int _ _ _ _) pps_nil)) rfl rfl (by decide) (by decide)) (@pa_nil _) (by rfl)) (by rfl)) star_lst) star_lst) (by rfl)) star_tup) star_tup) star_lst) star_con) star_con) star_con) star_con) star_con) star_con)) (by rfl) (by first | exact .inl rfl | exact .inr rfl | assumption)) (@pss_cons _ _ _ _ _ (@ps_set _ _ 6 _ _ _ _ sc_l_spoilt.nd rfl (Or.inl rfl) (@pe_op _ _ _ _ _ _ _ _ op_cat (pv 6) (@pe_lst _ _ _ _ (@pa_cons _ _ _ _ _ (pe_disp (pps_cons (@pe_int _ _ _ _) (@pe_int _ _ _ _) (pps_cons (@pe_int _ _ _ _) (@pe_int _ _ _ _) (pps_cons (@pe_int _ _ _ _) (@pe_int _ _ _ _) pps_nil))) rfl rfl (by decide) (by decide)) (@pa_cons _ _ _ _ _ (@pe_str _ _ _ _) (@pa_cons _ _ _ _ _ (@pe_str _ _ _ _) (@pa_cons _ _ _ _ _ (@pe_tup _ _ _ _ _ (@pa_cons _ _ _ _ _ (@pe_int _ _ _ _) (@pa_cons _ _ _ _ _ (@pe_un _ _ _ _ _ _ un_neg (@pe_int _ _ _ _)) (@pa_nil _) star_un) star_con)) (@pa_cons _ _ _ _ _ (@pe_tup _ _ _ _ _ (@pa_cons _ _ _ _ _ (@pe_int _ _ _ _) (@pa_cons _ _ _ _ _ (@pe_int _ _ _ _) (@pa_cons _ _ _ _ _ (@pe_un _ _ _ _ _ _ un_neg (@pe_int _ _ _ _)) (@pa_nil _) star_un) star_con) star_con)) (@pa_cons _ _ _ _ _ (@pe_tup _ _ _ _ _ (@pa_cons _ _ _ _ _ (@pe_int _ _ _ _) (@pa_cons _ _ _ _ _ (@pe_int _ _ _ _) (@pa_nil _) star_con) star_con)) (@pa_cons _ _ _ _ _ (@pe_tup _ _ _ _ _ (@pa_cons _ _ _ _ _ (@pe_int _ _ _ _) (@pa_cons _ _ _ _ _ (@pe_int _ _ _ _) (@pa_cons _ _ _ _ _ (@pe_int _ _ _ _) (@pa_nil _) star_con) star_con) star_con)) (@pa_nil _) star_tup) star_tup) star_tup) star_tup) star_con) star_con) (by rfl)))) (by rfl) (by first | exact .inl rfl | exact .inr rfl | assumption)) (@pss_one _ _ _ (@ps_ret _ _ _ _ (@pe_tup _ _ _ _ _ (@pa_cons _ _ _ _ _ (@pe_ix _ _ _ _ _ _ _ ix_list (pv 6) (@pe_fn _ _ _ _ _ _ _ _ _ _ _ _ _ _ T.l_draw (ok_l_draw T) hr (by decide) (@pa_cons _ _ _ _ _ (pv 0) (@pa_cons _ _ _ _ _ (@pe_int _ _ _ _) (@pa_nil _) star_con) star_name) (by rfl) (by decide) (by rfl) (by rfl)) (fun _ _ => rfl)) (@pa_cons _ _ _ _ _ (@pe_bl _ _ _ _) (@pa_nil _) star_con) star_sub)))))) (@pss_nil _)) (@pss_one _ _ _ (@ps_ret _ _ _ _ (@pe_tup _ _ _ _ _ (@pa_cons _ _ _ _ _ (@pe_callTy _ _ _ _ _ _ _ _ _ call_tuple_of (by rfl) T.b_tuple PyProof.Rows.boot_tuple (@pa_cons _ _ _ _ _ (pv 4) (@pa_nil _) star_name) (by decide) (by decide) (by rfl) (by rfl)) (@pa_cons _ _ _ _ _ (@pe_or _ _ _ _ _ _ _ (@pe_cmpR _ _ _ _ _ _ _ _ op_eq (pv 2) (@pe_int _ _ _ _) (nomark _)) (@pe_one _ _ _ _ _ (@pe_cmpR _ _ _ _ _ _ _ _ op_eq (pv 2) (@pe_int _ _ _ _) (nomark _)))) (@pa_nil _) star_bool) star_call))))))))))))))), ?_⟩
    obtain ⟨ys, hys⟩ := hh.ls
    have nz : 0 < ns.length := by omega
    refine st_setG (gv_draw hh (pa_c (pu_v rfl) (pa_c pu_c pa_n)) (by decide) Bd.small) ?_
    rintro _ H1 ⟨⟨m, rfl, m0, m1⟩, hh1, s1⟩
    have ha1 := s1 _ _ ha fun z => by rw [z, hys] at ha; cases ha
    refine st_setG (gv_draw (m := (ns.length : Int)) hh1 (pa_c (pu_v rfl) (pa_c (pu_cast (pu_lenT (pa_c (pu_v rfl) pa_n) (SqT.of ha1)) (by rw [List.length_map])) pa_n)) (by omega) (Bd.small (by omega))) ?_
    rintro _ H2 ⟨⟨j, rfl, j0, j1⟩, hh2, s2⟩
    obtain ⟨ys1, hys1⟩ := hh1.ls
    have ha2 := s2 _ _ ha1 fun z => by rw [z, hys1] at ha1; cases ha1
    obtain ⟨j, rfl⟩ : ∃ j' : Nat, j = j' := ⟨j.toNat, by omega⟩
    obtain ⟨m, rfl⟩ : ∃ m' : Nat, m = m' := ⟨m.toNat, by omega⟩
    refine st_setG (R := fun v H' => ∃ l, v = .ref l ∧ H2 l = none ∧ H' = upd H2 l (.lst (ns.map V.int))) (fun Q q => (pa_c (pu_v rfl) pa_n : PuA (tCons (tVar 1) tNil) _ _ [.ref a]) _ ⟨a, _, rfl, .inr (SqT.of ha2), fun l hl => q _ _ ⟨l, rfl, hl, rfl⟩⟩) ?_
    rintro _ _ ⟨l, rfl, hl, rfl⟩
    have s02 := s1.trans s2
    have s3 : Same H2 (upd H2 l (.lst (ns.map V.int))) := Same.upd hl
    obtain ⟨n1, n2⟩ := hand_ne hh2 hl
    have hl0 : H l = none := sameB_none s02 hh2.ls hl
    have hh3 := hh2.same s3
    obtain ⟨ys3, hys3⟩ := hh3.ls
    have big : ∀ n : Nat, n ≤ 1000 → n ≤ sizeLine := fun n h => Nat.le_trans h (by decide)
    have SK : ∀ {m' c : Int} {σ : L2.St} {H' : Hp} {En : Ends} {t rest : TS}, σ[2]? = some (some (.int m')) → m' ≠ c → rest En σ H' → tSeq (tIfS (tTest (tOp rEq (tVar 2) (tC (.int c)))) t tNext) rest En σ H' := fun h n q => st_ifN (pt_t (pu_eqI (pu_v h) pu_c)) (fun e => absurd (of_decide_eq_true e) n) fun _ => q
    have TK : ∀ {m' c : Int} {σ : L2.St} {H' : Hp} {En : Ends} {t rest : TS}, σ[2]? = some (some (.int m')) → m' = c → t { En with nx := rest En } σ H' → tSeq (tIfS (tTest (tOp rEq (tVar 2) (tC (.int c)))) t tNext) rest En σ H' := fun h n q => st_ifN (b := true) (pt_t (pu_cast (pu_eqI (pu_v h) pu_c) (by rw [decide_eq_true n]))) (fun _ => q) (fun e => by cases e)
    have RT : ∀ {σ : L2.St} {H' : Hp} {En : Ends} {ta : TA}, GvA ta σ H' (fun vs H2 => ∃ th b d, vs = [th, .bl b] ∧ DAt hd H2 th d ∧ b = okN ns.length d ∧ HandAt H2 hd sc ∧ SameB hd H H2) → En.rt = Q → tRet (tTup ta) En σ H' := fun {σ H' En ta} h e => by
      refine st_retG (R := fun v H2 => ∃ p th b d, v = .ref p ∧ H2 p = some (.tup [th, .bl b]) ∧ DAt hd H2 th d ∧ b = okN ns.length d ∧ HandAt H2 hd sc ∧ SameB hd H H2) (gv_tupA h ?_) ?_
      · rintro _ H4 ⟨th, b, d, rfl, h1, h2, h3, h4⟩
        exact ⟨big _ (by simp), fun p hp => ⟨p, th, b, d, rfl, upd_same, h1.same (Same.upd hp), h2, h3.same (Same.upd hp), h4.trans (Same.upd hp).b⟩⟩
      · rintro _ H4 ⟨p, th, b, d, rfl, h0, h1, h2, h3, h4⟩
        rw [e]
        exact k p th b d H4 h0 h1 h2 h3 h4
    -- the last row
    have FIN : ∀ {m' : Int} {σ : L2.St} {H' : Hp} {En : Ends} {l' : Addr} {xs : List V} {ds : List D}, σ[2]? = some (some (.int m')) → σ[4]? = some (some (.ref l')) → H' l' = some (.lst xs) → xs.length ≤ 1000 → DsAt hd H' xs ds → (decide (m' = 0) || decide (m' = 9)) = okN ns.length (.tup ds) → HandAt H' hd sc → SameB hd H H' → En.rt = Q →
        tRet (tTup (tCons (tCB (fun xs H Q => ∃ p ys, xs = [.ref p] ∧ ((SqL K H p ys ∧ ∀ l, H l = none → Q (.ref l) (upd H l (.tup ys))) ∨ (SqT K H p ys ∧ Q (.ref p) H))) (tCons (tVar 4) tNil)) (tCons (tOrV (tOp rEq (tVar 2) (tC (.int 0))) (tOp rEq (tVar 2) (tC (.int 9)))) tNil))) En σ H' := fun {m' σ H' En l' xs ds} e2 e4 hl' hz t e hh' s' er => RT (fun Q q => by
          dsimp only [tCons, tCB, tNil]
          refine pu_v e4 _ ⟨l', _, rfl, .inl ⟨SqL.of hl', fun p hp => ?_⟩⟩
          exact (pu_or (pu_eqI (pu_v e2) pu_c) fun _ => pu_eqI (pu_v e2) pu_c) _ (q _ _ ⟨_, _, _, rfl, .tup upd_same (t.same (Same.upd hp)), e, hh'.same (Same.upd hp), s'.trans (Same.upd hp).b⟩)) er
    have base := ds_ints (hd := hd) (H := upd H2 l (.lst (ns.map V.int))) ns
    have sB3 : SameB hd H (upd H2 l (.lst (ns.map V.int))) := s02.trans s3.b
    have len1 : (ns.map V.int).length ≤ 1000 := by rw [List.length_map]; omega
    have okT : okN ns.length (.tup (ns.map D.int)) = true := by rw [okN_ints]; exact ok
    match m, (show m < 10 by omega) with
    | 0, _ =>
      refine SK rfl (by decide) (SK rfl (by decide) (SK rfl (by decide) (SK rfl (by decide) (SK rfl (by decide) (SK rfl (by decide) (SK rfl (by decide) (SK rfl (by decide) ?_)))))))
      exact FIN (m' := ((0 : Nat) : Int)) rfl rfl upd_same len1 base (by rw [okT]; rfl) hh3 sB3 rfl
    | 9, _ =>
      refine SK rfl (by decide) (SK rfl (by decide) (SK rfl (by decide) (SK rfl (by decide) (SK rfl (by decide) (SK rfl (by decide) (SK rfl (by decide) (SK rfl (by decide) ?_)))))))
      exact FIN (m' := ((9 : Nat) : Int)) rfl rfl upd_same len1 base (by rw [okT]; rfl) hh3 sB3 rfl
    | 1, _ =>
      refine TK rfl rfl (RT (fun Q q => (pa_c (pu_v rfl) (pa_c pu_c pa_n)) _ (q _ _ ⟨.ref l, false, .lst (ns.map D.int), rfl, .lst upd_same (Ne.symm n1) base, rfl, hh3, sB3⟩)) rfl)
    | 2, _ =>
      refine SK rfl (by decide) (TK rfl rfl (RT (fun Q q => ?_) rfl))
      dsimp only [tCons, tCB, tOp, tC, tLst, tNil]
      refine pu_v (v := .ref l) rfl _ ?_
      refine gv_draw hh3 (pa_c (pu_v rfl) (pa_c pu_c pa_n)) (by decide) Bd.small _ ?_
      rintro _ H4 ⟨⟨n, rfl, _, _⟩, hh4, s4⟩
      have hl4 : H4 l = some (.lst (ns.map V.int)) := s4 _ _ upd_same (Ne.symm n1)
      refine ⟨1, n, rfl, rfl, big _ (by simp), fun p hp => ?_⟩
      have s5 : Same H4 (upd H4 p (.lst [.int (1 + n)])) := Same.upd hp
      refine ⟨l, p, _, _, rfl, rfl, s5 _ _ hl4, upd_same, big _ (by rw [List.length_map, List.length_singleton]; omega), fun p2 hp2 => ?_⟩
      have s6 : Same (upd H4 p (.lst [.int (1 + n)])) (upd (upd H4 p (.lst [.int (1 + n)])) p2 (.lst (ns.map V.int ++ [.int (1 + n)]))) := Same.upd hp2
      refine ⟨p2, _, rfl, .inl ⟨SqL.of upd_same, fun p3 hp3 => ?_⟩⟩
      have s7 := s5.trans (s6.trans (Same.upd (o := .tup (ns.map V.int ++ [.int (1 + n)])) hp3))
      refine (q _ _ ⟨.ref p3, false, .tup (ns.map D.int ++ [.int (1 + n)]), rfl, .tup upd_same (ds_app (ds_ints ns) (.cons (.int _) .nil)), ?_, hh4.same s7, sB3.trans (s4.trans s7.b)⟩)
      rw [okN_len (by simp)]
    | 3, _ =>
      refine SK rfl (by decide) (SK rfl (by decide) (TK rfl rfl (RT (fun Q q => ?_) rfl)))
      dsimp only [tCons, tCB, tOp, tC, tNil]
      refine gv_lTo (k := j) (pu_v rfl) (pu_v rfl) (upd_same : (upd H2 l (.lst (ns.map V.int))) l = _) _ ?_
      rintro _ _ ⟨p, hp, rfl, rfl⟩
      have s5 : Same (upd H2 l (.lst (ns.map V.int))) (upd (upd H2 l (.lst (ns.map V.int))) p (.lst ((ns.map V.int).take j))) := Same.upd hp
      refine gv_lFrom (k := j + 1) (pu_v rfl) (pu_cast (pu_add (pu_v rfl) pu_c) (by simp)) (s5 _ _ upd_same) _ ?_
      rintro _ _ ⟨p2, hp2, rfl, rfl⟩
      have s6 := s5.trans (Same.upd (o := .lst ((ns.map V.int).drop (j + 1))) hp2)
      have jl : j < ns.length := by omega
      refine ⟨p, p2, _, _, rfl, rfl, Same.upd hp2 _ _ upd_same, upd_same, big _ (by rw [List.length_take, List.length_drop, List.length_map]; omega), fun p3 hp3 => ?_⟩
      refine ⟨p3, _, rfl, .inl ⟨SqL.of upd_same, fun p4 hp4 => ?_⟩⟩
      have s7 := (s6.trans (Same.upd (o := .lst ((ns.map V.int).take j ++ (ns.map V.int).drop (j + 1))) hp3)).trans (Same.upd (o := .tup ((ns.map V.int).take j ++ (ns.map V.int).drop (j + 1))) hp4)
      refine (q _ _ ⟨.ref p4, false, .tup ((ns.take j ++ ns.drop (j + 1)).map D.int), rfl, .tup upd_same ?_, ?_, hh3.same s7, sB3.trans s7.b⟩)
      · rw [← List.map_take, ← List.map_drop, ← List.map_append]
        exact ds_ints _
      · rw [okN_len (by rw [List.length_map, List.length_append, List.length_take, List.length_drop]; omega)]
    | 4, _ =>
      refine SK rfl (by decide) (SK rfl (by decide) (SK rfl (by decide) (TK rfl rfl ?_)))
      have a8 : ∀ (x : Str), x.length ≤ 3 → (∀ c ∈ x.cps.toList, c < 128) → ((∀ c ∈ x.cps.toList, c < 128) ∧ x.length ≤ 1000) := fun x h1 h2 => ⟨h2, by omega⟩
      dsimp only [tAsg, tOp, gSub]
      refine gv_lstD (hd := hd) (ds := bad8) (da_c de_b (da_c de_b (da_c de_n (da_c (de_s (a8 _ (by decide +kernel) (by decide +kernel))) (da_c (de_s (a8 _ (by decide +kernel) (by decide +kernel))) (da_c (de_tup (da_c de_i da_n)) (da_c (de_lst hys3 (da_c de_i da_n)) (da_c (de_lst hys3 da_n) da_n)))))))) (by decide) _ ?_
      rintro _ H4 ⟨p, xs, rfl, hp, s4, hp4, t4⟩
      have hh4 := hh3.same s4
      obtain ⟨ys4, hys4⟩ := hh4.ls
      refine gv_draw hh4 (pa_c (pu_v rfl) (pa_c pu_c pa_n)) (by decide) Bd.small _ ?_
      rintro _ H5 ⟨⟨n, rfl, z0, z1⟩, hh5, s5⟩
      have pn : p ≠ hd := fun e => by rw [e, hys3] at hp; cases hp
      have hp5 := s5 _ _ hp4 pn
      have t5 := DsAt.but hys4 s5 t4
      have hl5 : H5 l = some (.lst (ns.map V.int)) := s5 _ _ (s4 _ _ upd_same) (Ne.symm n1)
      obtain ⟨d, hd8⟩ : ∃ d, bad8[n.toNat]? = some d := ⟨_, List.getElem?_eq_getElem (show n.toNat < bad8.length by show n.toNat < 8; omega)⟩
      obtain ⟨v, hv, hvd⟩ := t5.get' hd8
      have hat : atI xs n = some v := by
        have := atI_nat hv
        rwa [show ((n.toNat : Nat) : Int) = n by omega] at this
      refine ⟨p, xs, n, v, rfl, rfl, SqL.of hp5, hat, ?_⟩
      refine pu_v (v := .ref l) rfl _ (pu_v rfl _ ⟨l, _, (j : Int), j, rfl, rfl, hl5, ?_, ?_⟩)
      · unfold ixN
        rw [if_pos (by omega), List.length_map, if_pos (by omega)]
        rfl
      refine SK rfl (by decide) (SK rfl (by decide) (SK rfl (by decide) (SK rfl (by decide) ?_)))
      have nl : ∀ {b : Addr} {o : HO}, H2 b = some o → b ≠ l := fun {b o} e z => by rw [z, hl] at e; cases e
      refine FIN (m' := ((4 : Nat) : Int)) (l' := l) rfl rfl upd_same (by rw [List.length_set]; exact len1) (ds_set (d := d) ?_ j (ds_ints ns)) ?_ (hand_put hh5 n1 n2) ?_ rfl
      · exact but8 (w := v) hl5 hvd (List.mem_of_getElem? hd8) (by omega)
      · rw [okN_bad (bad8_no (List.mem_of_getElem? hd8)) (by rw [List.length_map]; omega)]
        rfl
      · exact fun b o e ne => by
          rw [upd_ne (fun z => by rw [z, hl0] at e; cases e)]
          exact s5 _ _ (s4 _ _ (sB3 _ _ e ne)) ne
    | 5, _ =>
      refine SK rfl (by decide) (SK rfl (by decide) (SK rfl (by decide) (SK rfl (by decide) (TK rfl rfl ?_))))
      refine st_put1 pu_c (pu_v rfl) (pu_neg pu_c) upd_same (by rw [List.length_map]; exact ixN_last nz) ?_
      refine SK rfl (by decide) (SK rfl (by decide) (SK rfl (by decide) ?_))
      rw [upd_upd, show (ns.map V.int).set (ns.length - 1) (.int 0) = (ns.set (ns.length - 1) 0).map V.int by rw [List.map_set]]
      refine FIN (m' := ((5 : Nat) : Int)) (l' := l) rfl rfl upd_same (by rw [List.length_map, List.length_set]; omega) (ds_ints _) ?_ (hh2.same (Same.upd hl)) (s02.trans (Same.upd hl).b) rfl
      rw [okN_ints, okI_low (by rw [set_last _ nz]; decide)]
      rfl
    | 6, _ =>
      refine SK rfl (by decide) (SK rfl (by decide) (SK rfl (by decide) (SK rfl (by decide) (SK rfl (by decide) (TK rfl rfl ?_)))))
      have hlast : 1 ≤ ns.getLastD 0 := by
        have := ok
        unfold okI at this
        simp only [Bool.and_eq_true, decide_eq_true_iff] at this
        exact this.1.2
      have hat : atI (ns.map V.int) (-1) = some (.int (ns.getLastD 0)) := by
        unfold atI
        rw [List.length_map, ixN_last nz]
        show (ns.map V.int)[ns.length - 1]? = _
        rw [List.getElem?_map, List.getLastD_eq_getLast?, List.getLast?_eq_getElem?, List.getElem?_eq_getElem (show ns.length - 1 < ns.length by omega)]
        rfl
      refine st_put1 (pu_sub pu_c (pu_ixL (pu_v rfl) (pu_neg pu_c) (SqL.of upd_same) hat)) (pu_v rfl) (pu_neg pu_c) upd_same (by rw [List.length_map]; exact ixN_last nz) ?_
      refine SK rfl (by decide) (SK rfl (by decide) ?_)
      rw [upd_upd, show (ns.map V.int).set (ns.length - 1) (.int (0 - ns.getLastD 0)) = (ns.set (ns.length - 1) (0 - ns.getLastD 0)).map V.int by rw [List.map_set]]
      refine FIN (m' := ((6 : Nat) : Int)) (l' := l) rfl rfl upd_same (by rw [List.length_map, List.length_set]; omega) (ds_ints _) ?_ (hh2.same (Same.upd hl)) (s02.trans (Same.upd hl).b) rfl
      rw [okN_ints, okI_low (by rw [set_last _ nz]; omega)]
      rfl
    | 7, _ =>
      refine SK rfl (by decide) (SK rfl (by decide) (SK rfl (by decide) (SK rfl (by decide) (SK rfl (by decide) (SK rfl (by decide) (TK rfl rfl ?_))))))
      refine st_setG (R := fun v H' => ∃ n : Int, v = .int n ∧ 2 ≤ n ∧ n < 2 ^ 64 ∧ HandAt H' hd sc ∧ SameB hd (upd H2 l (.lst (ns.map V.int))) H') (fun Q q => ?_) ?_
      · dsimp only [tOp, tC]
        refine gv_draw (m := 10 ^ 9) hh3 (pa_c (pu_v rfl) (pa_c (pu_pow pu_c pu_c ⟨by decide, by decide, by decide⟩) pa_n)) (by decide) (by unfold Bd; decide +kernel) _ ?_
        rintro _ H4 ⟨⟨n, rfl, z0, z1⟩, hh4, s4⟩
        have b1 : (10 : Int) ^ 9 + 2 < 2 ^ 64 := by decide
        exact ⟨2, n, rfl, rfl, q _ _ ⟨2 + n, rfl, by omega, by omega, hh4, s4⟩⟩
      rintro _ H4 ⟨n, rfl, z0, z1, hh4, s4⟩
      have hl4 : H4 l = some (.lst (ns.map V.int)) := s4 _ _ upd_same (Ne.symm n1)
      refine st_setG1 (gv_compLF (fun v => match v with | .int i => .int (i * n) | v => v) (pu_v rfl) hl4 len1 (fun x => KeepS.cons (KeepS.refl _) (some x)) fun x hx H' s => ?_) ?_
      · obtain ⟨i, _, rfl⟩ := List.mem_map.mp hx
        exact Pu.gv' (pu_mul (pu_v rfl) (pu_v rfl) (IntMulOk.of_right (intBits_le_64 (Int.lt_of_lt_of_le (by decide) (Int.le_trans (by decide : (0 : Int) ≤ 2) z0)) z1))) ⟨rfl, Same.rfl'⟩
      rintro _ H5 ⟨s5, l5, rfl, hn5, hl5⟩
      refine SK rfl (by decide) ?_
      have e5 : (ns.map V.int).map (fun v => match v with | .int i => .int (i * n) | v => v) = (ns.map (· * n)).map V.int := by rw [List.map_map, List.map_map]; rfl
      rw [e5] at hl5
      refine FIN (m' := ((7 : Nat) : Int)) (l' := l5) rfl rfl hl5 (by rw [List.length_map, List.length_map]; omega) (ds_ints _) ?_ (hh4.same s5) (sB3.trans (s4.trans s5.b)) rfl
      rw [okN_ints, okI_mul z0]
      rfl
    | 8, _ =>
      refine SK rfl (by decide) (SK rfl (by decide) (SK rfl (by decide) (SK rfl (by decide) (SK rfl (by decide) (SK rfl (by decide) (SK rfl (by decide) (TK rfl rfl ?_)))))))
      have a8 : ∀ (x : Str), x.length ≤ 3 → (∀ c ∈ x.cps.toList, c < 128) → ((∀ c ∈ x.cps.toList, c < 128) ∧ x.length ≤ 1000) := fun x h1 h2 => ⟨h2, by omega⟩
      refine st_setG (gv_lstD (hd := hd) (ds := [.non, .bl true, .int 1, .int 0, .str (Str.ofString ""), .str (Str.ofString "1/2"), .lst [], .tup [], .tup [.int 1], .dct, .lst [.int 1, .int 2], .lst [.int 1, .int 2, .int 3], .dct, .dct]) (da_c de_n (da_c de_b (da_c de_i (da_c de_i (da_c (de_s (a8 _ (by decide +kernel) (by decide +kernel))) (da_c (de_s (a8 _ (by decide +kernel) (by decide +kernel))) (da_c (de_lst hys3 da_n) (da_c (de_tup da_n) (da_c (de_tup (da_c de_i da_n)) (da_c de_d (da_c (de_lst hys3 (da_c de_i (da_c de_i da_n))) (da_c (de_lst hys3 (da_c de_i (da_c de_i (da_c de_i da_n)))) (da_c (de_disp (kvs := [(.inr (Str.ofString "a"), .int 1)]) (fun H Q q => q) (by decide)) (da_c (de_disp (kvs := [(.inl 0, .int 1), (.inl 1, .int 2)]) (fun H Q q => q) (by decide)) da_n)))))))))))))) (by decide)) ?_
      rintro _ H4 ⟨p, xs, rfl, hp, s4, hp4, t4⟩
      have hh4 := hh3.same s4
      obtain ⟨ys4, hys4⟩ := hh4.ls
      refine st_setG (R := fun v H' => ∃ q xs, v = .ref q ∧ H4 q = none ∧ Same H4 H' ∧ H' q = some (.lst xs) ∧ DsAt hd H' xs bad21) (fun Q q => ?_) ?_
      · dsimp only [tOp]
        refine pu_v (v := .ref p) rfl _ (gv_lstD (hd := hd) (ds := [.dct, .str (Str.ofString "12"), .str (Str.ofString "123"), .tup [.int 2, .int (-4)], .tup [.int 2, .int 4, .int (-2)], .tup [.int 2, .int 4], .tup [.int 2, .int 4, .int 2]]) (da_c (de_disp (kvs := [(.inl 0, .int 1), (.inl 1, .int 2), (.inl 2, .int 3)]) (by intro H Q q; exact q) (by decide)) (da_c (de_s (a8 _ (by decide +kernel) (by decide +kernel))) (da_c (de_s (a8 _ (by decide +kernel) (by decide +kernel))) (da_c (de_tup (da_c de_i (da_c (de_p (fun _ _ => pu_neg pu_c) fun _ _ => .int _) da_n))) (da_c (de_tup (da_c de_i (da_c de_i (da_c (de_p (fun _ _ => pu_neg pu_c) fun _ _ => .int _) da_n)))) (da_c (de_tup (da_c de_i (da_c de_i da_n))) (da_c (de_tup (da_c de_i (da_c de_i (da_c de_i da_n)))) da_n))))))) (by decide) _ ?_)
        rintro _ H5 ⟨p2, xs2, rfl, hp2, s5, hp5, t5⟩
        refine ⟨p, p2, xs, xs2, rfl, rfl, s5 _ _ hp4, hp5, big _ (by rw [t4.len, t5.len]; decide), fun p3 hp3 => q _ _ ⟨p3, _, rfl, same_none s5 hp3, s5.trans (Same.upd hp3), upd_same, ds_app (t4.same (s5.trans (Same.upd hp3))) (t5.same (Same.upd hp3))⟩⟩
      rintro _ H5 ⟨p2, xs2, rfl, hp2, s5, hp5, t5⟩
      have hh5 := hh4.same s5
      obtain ⟨ys5, hys5⟩ := hh5.ls
      refine RT (fun Q q => ?_) rfl
      dsimp only [tCons, tOp, tC, tNil]
      refine pu_v (v := .ref p2) rfl _ (gv_draw hh5 (pa_c (pu_v rfl) (pa_c pu_c pa_n)) (by decide) Bd.small _ ?_)
      rintro _ H6 ⟨⟨n, rfl, z0, z1⟩, hh6, s6⟩
      have pn : p2 ≠ hd := fun e => by rw [e, hys4] at hp2; cases hp2
      have hp6 := s6 _ _ hp5 pn
      have t6 := DsAt.but hys5 s6 t5
      obtain ⟨d, hd8⟩ : ∃ d, bad21[n.toNat]? = some d := ⟨_, List.getElem?_eq_getElem (show n.toNat < bad21.length by show n.toNat < 21; omega)⟩
      obtain ⟨v, hv, hvd⟩ := t6.get' hd8
      have hat : atI xs2 n = some v := by
        have := atI_nat hv
        rwa [show ((n.toNat : Nat) : Int) = n by omega] at this
      refine ⟨p2, xs2, n, v, rfl, rfl, SqL.of hp6, hat, ?_⟩
      exact (q _ _ ⟨v, false, d, rfl, hvd, (bad21_no (List.mem_of_getElem? hd8) l23).symm, hh6, sB3.trans (s4.b.trans (s5.b.trans s6))⟩)
def sp_l_told : Sp := fun vs H Q _ => ∃ a b, vs = [.bl a, .bl b] ∧ Q (.bl (a == b)) H
theorem sc_l_told : FnScope ["_law_told_here", "_law_due"] ["_law_told_here", "_law_due"] (defScope s_l_told) := ⟨rfl, rfl, rfl, by decide +kernel, rfl, by decide +kernel, by decide +kernel⟩
theorem ok_l_told (T : Txt K mg t) : FnOk P w K mg base CX0 1 t.f_l_told t.d_l_told ["_law_told_here", "_law_due"] sp_l_told := by
  refine T.l_told.F.ok (k := 0) sc_l_told (fun vs H Q E h => ?_) (fun cdv A outer s H vs Q E hr h => ?_)
  · obtain ⟨a, b, rfl, _⟩ := h
    rfl
  · obtain ⟨a, b, rfl, k⟩ := h
    refine ⟨_, (@pss_one _ _ _ (@ps_ret _ _ _ _ (@pe_and _ _ _ _ _ _ _ (@pe_callB _ _ _ _ _ _ _ _ _ call_isinst (by rfl) T.b_isinstance PyProof.Rows.boot_isinstance (@pa_cons _ _ _ _ _ (pv 0) (@pa_cons _ _ _ _ _ (@pe_ty _ _ _ _ T.b_bool PyProof.Rows.boot_bool (by rfl) (by decide) (by decide)) (@pa_nil _) star_name) star_name) (by decide) (by decide) (by rfl) (by rfl)) (@pe_one _ _ _ _ _ (@pe_cmpR _ _ _ _ _ _ _ _ op_eq (pv 0) (pv 1) (nomark _)))))), ?_⟩
    exact st_ret (v := .bl (a == b)) (pu_cast (pu_and (pu_isi (pa_c (pu_v rfl) (pa_c pu_c pa_n)) (.bl a) kit_same) fun _ => pu_eqB (pu_v rfl) (pu_v rfl)) (by simp)) k
def cls15 (t : Adr) : List Addr := [t.c_NoNumber, t.c_NoPoint, t.c_BadLayer, t.c_BadPlan, t.c_NoFace, t.c_Endless, t.c_NoGround, t.c_NoName, t.c_Taken, t.c_NoLayer, t.c_TooMany, t.c_BadWish, t.c_NoSize, t.c_NoText, t.c_NoRow]
/-- the fields that one is given -/
def FlK (k : Nat) (a b : Int) (dd : Option Addr) (H : Hp) : Prop := match k with
  | 2 => ∃ dx, dd = some dx ∧ H dx = some (.ext (xdI dx [(Str.ofString "ring", .int a), (Str.ofString "at", .int b)]))
  | 4 => ∃ dx, dd = some dx ∧ H dx = some (.ext (xdI dx [(Str.ofString "number", .int a)]))
  | 6 => ∃ dx p, dd = some dx ∧ H dx = some (.ext (xdI dx [(Str.ofString "point", .ref p)])) ∧ H p = some (.tup [.int a, .int b, .int 1])
  | 8 => ∃ dx, dd = some dx ∧ H dx = some (.ext (xdI dx [(Str.ofString "name", .str (Str.ofString "a"))]))
  | 9 => ∃ dx, dd = some dx ∧ H dx = some (.ext (xdI dx [(Str.ofString "name", .str (Str.ofString "b"))]))
  | 10 => ∃ dx, dd = some dx ∧ H dx = some (.ext (xdI dx [(Str.ofString "most", .int a)]))
  | _ => True
def spx_l_raised (t : Adr) : Sp := fun vs H Q E => ∃ (k : Nat) (l : Addr) (a b : Int), vs = [.int k, .ref l] ∧ k < 17 ∧ H l = some (.lst [.int a, .int b]) ∧ ∀ dd H', Same H H' → FlK k a b dd H' → E (.ref ((cls15 t).getD (k % 15) 0)) dd H'
theorem sc_l_raised : FnScope ["_law_which", "_law_some"] ["_law_which", "_law_some"] (defScope s_l_raised) := ⟨rfl, rfl, rfl, by decide +kernel, rfl, by decide +kernel, by decide +kernel⟩
theorem okx_l_raised (T : Txt K mg t) : FnOk P w K mg base (CXD P w) 3 t.f_l_raised t.d_l_raised ["_law_which", "_law_some"] (spx_l_raised t) := by
  refine T.l_raised.F.okD (k := 2) sc_l_raised (fun vs H Q E h => ?_) (fun cdv A outer s H vs Q E hr h => ?_)
  · obtain ⟨k, l, a, b, rfl, _⟩ := h
    rfl
  · obtain ⟨n, l, a, b, rfl, hn, hl, ke⟩ := h
    refine ⟨_, (@pss_cons _ _ _ _ _ (@ps_if _ _ _ _ _ _ _ _ (@pt_cmpR _ _ _ _ _ _ _ _ op_eq (pv 0) (@pe_int _ _ _ _) (nomark _)) (@pss_one _ _ _ (ps_raise0D T.e_NoNumber T.m_NoNumber rfl)) (@pss_nil _)) (@pss_cons _ _ _ _ _ (@ps_if _ _ _ _ _ _ _ _ (@pt_cmpR _ _ _ _ _ _ _ _ op_eq (pv 0) (@pe_int _ _ _ _) (nomark _)) (@pss_one _ _ _ (ps_raise0D T.e_NoPoint T.m_NoPoint rfl)) (@pss_nil _)) (@pss_cons _ _ _ _ _ (@ps_if _ _ _ _ _ _ _ _ (@pt_cmpR _ _ _ _ _ _ _ _ op_eq (pv 0) (@pe_int _ _ _ _) (nomark _)) (@pss_one _ _ _ (ps_raiseI T.mx_BadLayer T.kx_BadLayer T.m_BadLayer rfl (ok_BadLayer_init T) hr (by decide) T.BadLayer_init.b (@pa_cons _ _ _ _ _ (@pe_ix _ _ _ _ _ _ _ ix_list (pv 1) (@pe_int _ _ _ _) (fun _ _ => rfl)) (@pa_cons _ _ _ _ _ (@pe_ix _ _ _ _ _ _ _ ix_list (pv 1) (@pe_int _ _ _ _) (fun _ _ => rfl)) (@pa_nil _) star_sub) star_sub))) (@pss_nil _)) (@pss_cons _ _ _ _ _ (@ps_if _ _ _ _ _ _ _ _ (@pt_cmpR _ _ _ _ _ _ _ _ op_eq (pv 0) (@pe_int _ _ _ _) (nomark _)) (@pss_one _ _ _ (ps_raise0D T.e_BadPlan T.m_BadPlan rfl)) (@pss_nil _)) (@pss_cons _ _ _ _ _ (@ps_if _ _ _ _ _ _ _ _ (@pt_cmpR _ _ _ _ _ _ _ _ op_eq (pv 0) (@pe_int _ _ _ _) (nomark _)) (@pss_one _ _ _ (ps_raiseI T.mx_NoFace T.kx_NoFace T.m_NoFace rfl (ok_NoFace_init T) hr (by decide) T.NoFace_init.b (@pa_cons _ _ _ _ _ (@pe_ix _ _ _ _ _ _ _ ix_list (pv 1) (@pe_int _ _ _ _) (fun _ _ => rfl)) (@pa_nil _) star_sub))) (@pss_nil _)) (@pss_cons _ _ _ _ _ (@ps_if _ _ _ _ _ _ _ _ (@pt_cmpR _ _ _ _ _ _ _ _ op_eq (pv 0) (@pe_int _ _ _ _) (nomark _)) (@pss_one _ _ _ (ps_raise0D T.e_Endless T.m_Endless rfl)) (@pss_nil _)) (@pss_cons _ _ _ _ _ (@ps_if _ _ _ _ _ _ _ _ (@pt_cmpR _ _ _ _ _ _ _ _ op_eq (pv 0) (@pe_int _ _ _ _) (nomark _)) (@pss_one _ _ _ (ps_raiseI T.mx_NoGround T.kx_NoGround T.m_NoGround rfl (ok_NoGround_init T) hr (by decide) T.NoGround_init.b (@pa_cons _ _ _ _ _ (@pe_tup _ _ _ _ _ (@pa_cons _ _ _ _ _ (@pe_ix _ _ _ _ _ _ _ ix_list (pv 1) (@pe_int _ _ _ _) (fun _ _ => rfl)) (@pa_cons _ _ _ _ _ (@pe_ix _ _ _ _ _ _ _ ix_list (pv 1) (@pe_int _ _ _ _) (fun _ _ => rfl)) (@pa_cons _ _ _ _ _ (@pe_int _ _ _ _) (@pa_nil _) star_con) star_sub) star_sub)) (@pa_nil _) star_tup))) (@pss_nil _)) (@pss_cons _ _ _ _ _ (@ps_if _ _ _ _ _ _ _ _ (@pt_cmpR _ _ _ _ _ _ _ _ op_eq (pv 0) (@pe_int _ _ _ _) (nomark _)) (@pss_one _ _ _ (ps_raise0D T.e_NoName T.m_NoName rfl)) (@pss_nil _)) (@pss_cons _ _ _ _ _ (@ps_if _ _ _ _ _ _ _ _ (@pt_cmpR _ _ _ _ _ _ _ _ op_eq (pv 0) (@pe_int _ _ _ _) (nomark _)) (@pss_one _ _ _ (ps_raiseI T.mx_Taken T.kx_Taken T.m_Taken rfl (ok_Taken_init T) hr (by decide) T.Taken_init.b (@pa_cons _ _ _ _ _ (@pe_str _ _ _ _) (@pa_nil _) star_con))) (@pss_nil _)) (@pss_cons _ _ _ _ _ (@ps_if _ _ _ _ _ _ _ _ (@pt_cmpR _ _ _ _ _ _ _ _ op_eq (pv 0) (@pe_int _ _ _ _) (nomark _)) (@pss_one _ _ _ (ps_raiseI T.mx_NoLayer T.kx_NoLayer T.m_NoLayer rfl (ok_NoLayer_init T) hr (by decide) T.NoLayer_init.b (@pa_cons _ _ _ _ _ (@pe_str _ _ _ _) (@pa_nil _) star_con))) (@pss_nil _)) (@pss_cons _ _ _ _ _ (@ps_if _ _ _ _ _ _ _ _ (@pt_cmpR _ _ _ _ _ _ _ _ op_eq (pv 0) (@pe_int _ _ _ _) (nomark _)) (@pss_one _ _ _ (ps_raiseI T.mx_TooMany T.kx_TooMany T.m_TooMany rfl (ok_TooMany_init T) hr (by decide) T.TooMany_init.b (@pa_cons _ _ _ _ _ (@pe_ix _ _ _ _ _ _ _ ix_list (pv 1) (@pe_int _ _ _ _) (fun _ _ => rfl)) (@pa_nil _) star_sub))) (@pss_nil _)) (@pss_cons _ _ _ _ _ (@ps_if _ _ _ _ _ _ _ _ (@pt_cmpR _ _ _ _ _ _ _ _ op_eq (pv 0) (@pe_int _ _ _ _) (nomark _)) (@pss_one _ _ _ (ps_raise0D T.e_BadWish T.m_BadWish rfl)) (@pss_nil _)) (@pss_cons _ _ _ _ _ (@ps_if _ _ _ _ _ _ _ _ (@pt_cmpR _ _ _ _ _ _ _ _ op_eq (pv 0) (@pe_int _ _ _ _) (nomark _)) (@pss_one _ _ _ (ps_raise0D T.e_NoSize T.m_NoSize rfl)) (@pss_nil _)) (@pss_cons _ _ _ _ _ (@ps_if _ _ _ _ _ _ _ _ (@pt_cmpR _ _ _ _ _ _ _ _ op_eq (pv 0) (@pe_int _ _ _ _) (nomark _)) (@pss_one _ _ _ (ps_raise0D T.e_NoText T.m_NoText rfl)) (@pss_nil _)) (@pss_cons _ _ _ _ _ (@ps_if _ _ _ _ _ _ _ _ (@pt_cmpR _ _ _ _ _ _ _ _ op_eq (pv 0) (@pe_int _ _ _ _) (nomark _)) (@pss_one _ _ _ (ps_raise0D T.e_NoRow T.m_NoRow rfl)) (@pss_nil _)) (@pss_cons _ _ _ _ _ (@ps_if _ _ _ _ _ _ _ _ (@pt_cmpR _ _ _ _ _ _ _ _ op_eq (pv 0) (@pe_int _ _ _ _) (nomark _)) (@pss_one _ _ _ (@ps_expr _ _ _ _ (@pe_fnD _ _ _ _ _ _ _ _ _ _ _ _ _ _ _ _ _ T.fraction (okx_fraction T) hr (by decide) passD (@pa_cons _ _ _ _ _ (@pe_ix _ _ _ _ _ _ _ ix_list (pv 1) (@pe_int _ _ _ _) (fun _ _ => rfl)) (@pa_cons _ _ _ _ _ (@pe_int _ _ _ _) (@pa_nil _) star_con) star_sub) (by rfl) (by decide) (by rfl) (by rfl)) (by rfl))) (@pss_nil _)) (@pss_one _ _ _ (@ps_if _ _ _ _ _ _ _ _ (@pt_cmpR _ _ _ _ _ _ _ _ op_eq (pv 0) (@pe_int _ _ _ _) (nomark _)) (@pss_one _ _ _ (@ps_expr _ _ _ _ (@pe_fnD _ _ _ _ _ _ _ _ _ _ _ _ _ _ _ _ _ T.point_by (okx_point_by T) hr (by decide) passD (@pa_cons _ _ _ _ _ (@pe_ix _ _ _ _ _ _ _ ix_list (pv 1) (@pe_int _ _ _ _) (fun _ _ => rfl)) (@pa_cons _ _ _ _ _ (@pe_ix _ _ _ _ _ _ _ ix_list (pv 1) (@pe_int _ _ _ _) (fun _ _ => rfl)) (@pa_cons _ _ _ _ _ (@pe_int _ _ _ _) (@pa_nil _) star_con) star_sub) star_sub) (by rfl) (by decide) (by rfl) (by rfl)) (by rfl))) (@pss_nil _))))))))))))))))))), ?_⟩
    have SK : ∀ {m' c : Int} {σ : L2.St} {H' : Hp} {En : Ends} {t rest : TS}, σ[0]? = some (some (.int m')) → m' ≠ c → rest En σ H' → tSeq (tIfS (tTest (tOp rEq (tVar 0) (tC (.int c)))) t tNext) rest En σ H' := fun h n q => st_ifN (pt_t (pu_eqI (pu_v h) pu_c)) (fun e => absurd (of_decide_eq_true e) n) fun _ => q
    have TK : ∀ {m' c : Int} {σ : L2.St} {H' : Hp} {En : Ends} {t rest : TS}, σ[0]? = some (some (.int m')) → m' = c → t { En with nx := rest En } σ H' → tSeq (tIfS (tTest (tOp rEq (tVar 0) (tC (.int c)))) t tNext) rest En σ H' := fun h n q => st_ifN (b := true) (pt_t (pu_cast (pu_eqI (pu_v h) pu_c) (by rw [decide_eq_true n]))) (fun _ => q) (fun e => by cases e)
    have TK1 : ∀ {m' c : Int} {σ : L2.St} {H' : Hp} {En : Ends} {t : TS}, σ[0]? = some (some (.int m')) → m' = c → t En σ H' → tIfS (tTest (tOp rEq (tVar 0) (tC (.int c)))) t tNext En σ H' := fun h n q => st_ifN1 (b := true) (pt_t (pu_cast (pu_eqI (pu_v h) pu_c) (by rw [decide_eq_true n]))) (fun _ => q) (fun e => by cases e)
    have I0 : ∀ {H' : Hp}, H' l = some (.lst [.int a, .int b]) → Pu (tOp (rIxL K) (tVar 1) (tC (.int 0))) [some (.int (n : Int)), some (.ref l)] H' (.int a) := fun h => pu_ixL (pu_v rfl) pu_c (SqL.of h) rfl
    have I1 : ∀ {H' : Hp}, H' l = some (.lst [.int a, .int b]) → Pu (tOp (rIxL K) (tVar 1) (tC (.int 1))) [some (.int (n : Int)), some (.ref l)] H' (.int b) := fun h => pu_ixL (pu_v rfl) pu_c (SqL.of h) rfl
    match n, hn with
    | 0, _ =>
      refine TK rfl rfl ?_
      exact ke none H Same.rfl' trivial
    | 1, _ =>
      refine SK rfl (by decide) (TK rfl rfl ?_)
      exact ke none H Same.rfl' trivial
    | 2, _ =>
      refine SK rfl (by decide) (SK rfl (by decide) (TK rfl rfl ?_))
      exact (pa_c (I0 hl) (pa_c (I1 hl) pa_n)) _ ⟨rfl, fun dx hd => ke (some dx) _ (Same.upd hd) ⟨dx, rfl, upd_same⟩⟩
    | 3, _ =>
      refine SK rfl (by decide) (SK rfl (by decide) (SK rfl (by decide) (TK rfl rfl ?_)))
      exact ke none H Same.rfl' trivial
    | 4, _ =>
      refine SK rfl (by decide) (SK rfl (by decide) (SK rfl (by decide) (SK rfl (by decide) (TK rfl rfl ?_))))
      exact (pa_c (I0 hl) pa_n) _ ⟨rfl, fun dx hd => ke (some dx) _ (Same.upd hd) ⟨dx, rfl, upd_same⟩⟩
    | 5, _ =>
      refine SK rfl (by decide) (SK rfl (by decide) (SK rfl (by decide) (SK rfl (by decide) (SK rfl (by decide) (TK rfl rfl ?_)))))
      exact ke none H Same.rfl' trivial
    | 6, _ =>
      refine SK rfl (by decide) (SK rfl (by decide) (SK rfl (by decide) (SK rfl (by decide) (SK rfl (by decide) (SK rfl (by decide) (TK rfl rfl ?_))))))
      dsimp only [tCons, tNil]
      refine gv_tup (pa_c (I0 hl) (pa_c (I1 hl) (pa_c pu_c pa_n))) (by show 3 ≤ sizeLine; decide) _ ?_
      rintro _ _ ⟨p, hp, rfl, rfl⟩
      exact ⟨rfl, fun dx hd => ke (some dx) _ ((Same.upd hp).trans (Same.upd hd)) ⟨dx, p, rfl, upd_same, Same.upd hd _ _ upd_same⟩⟩
    | 7, _ =>
      refine SK rfl (by decide) (SK rfl (by decide) (SK rfl (by decide) (SK rfl (by decide) (SK rfl (by decide) (SK rfl (by decide) (SK rfl (by decide) (TK rfl rfl ?_)))))))
      exact ke none H Same.rfl' trivial
    | 8, _ =>
      refine SK rfl (by decide) (SK rfl (by decide) (SK rfl (by decide) (SK rfl (by decide) (SK rfl (by decide) (SK rfl (by decide) (SK rfl (by decide) (SK rfl (by decide) (TK rfl rfl ?_))))))))
      exact (pa_c pu_c pa_n) _ ⟨rfl, fun dx hd => ke (some dx) _ (Same.upd hd) ⟨dx, rfl, upd_same⟩⟩
    | 9, _ =>
      refine SK rfl (by decide) (SK rfl (by decide) (SK rfl (by decide) (SK rfl (by decide) (SK rfl (by decide) (SK rfl (by decide) (SK rfl (by decide) (SK rfl (by decide) (SK rfl (by decide) (TK rfl rfl ?_)))))))))
      exact (pa_c pu_c pa_n) _ ⟨rfl, fun dx hd => ke (some dx) _ (Same.upd hd) ⟨dx, rfl, upd_same⟩⟩
    | 10, _ =>
      refine SK rfl (by decide) (SK rfl (by decide) (SK rfl (by decide) (SK rfl (by decide) (SK rfl (by decide) (SK rfl (by decide) (SK rfl (by decide) (SK rfl (by decide) (SK rfl (by decide) (SK rfl (by decide) (TK rfl rfl ?_))))))))))
      exact (pa_c (I0 hl) pa_n) _ ⟨rfl, fun dx hd => ke (some dx) _ (Same.upd hd) ⟨dx, rfl, upd_same⟩⟩
    | 11, _ =>
      refine SK rfl (by decide) (SK rfl (by decide) (SK rfl (by decide) (SK rfl (by decide) (SK rfl (by decide) (SK rfl (by decide) (SK rfl (by decide) (SK rfl (by decide) (SK rfl (by decide) (SK rfl (by decide) (SK rfl (by decide) (TK rfl rfl ?_)))))))))))
      exact ke none H Same.rfl' trivial
    | 12, _ =>
      refine SK rfl (by decide) (SK rfl (by decide) (SK rfl (by decide) (SK rfl (by decide) (SK rfl (by decide) (SK rfl (by decide) (SK rfl (by decide) (SK rfl (by decide) (SK rfl (by decide) (SK rfl (by decide) (SK rfl (by decide) (SK rfl (by decide) (TK rfl rfl ?_))))))))))))
      exact ke none H Same.rfl' trivial
    | 13, _ =>
      refine SK rfl (by decide) (SK rfl (by decide) (SK rfl (by decide) (SK rfl (by decide) (SK rfl (by decide) (SK rfl (by decide) (SK rfl (by decide) (SK rfl (by decide) (SK rfl (by decide) (SK rfl (by decide) (SK rfl (by decide) (SK rfl (by decide) (SK rfl (by decide) (TK rfl rfl ?_)))))))))))))
      exact ke none H Same.rfl' trivial
    | 14, _ =>
      refine SK rfl (by decide) (SK rfl (by decide) (SK rfl (by decide) (SK rfl (by decide) (SK rfl (by decide) (SK rfl (by decide) (SK rfl (by decide) (SK rfl (by decide) (SK rfl (by decide) (SK rfl (by decide) (SK rfl (by decide) (SK rfl (by decide) (SK rfl (by decide) (SK rfl (by decide) (TK rfl rfl ?_))))))))))))))
      exact ke none H Same.rfl' trivial
    | 15, _ =>
      refine SK rfl (by decide) (SK rfl (by decide) (SK rfl (by decide) (SK rfl (by decide) (SK rfl (by decide) (SK rfl (by decide) (SK rfl (by decide) (SK rfl (by decide) (SK rfl (by decide) (SK rfl (by decide) (SK rfl (by decide) (SK rfl (by decide) (SK rfl (by decide) (SK rfl (by decide) (SK rfl (by decide) (TK rfl rfl ?_)))))))))))))))
      dsimp only [tDrop, tCall]
      refine (pa_c (I0 hl) (pa_c pu_c pa_n)) _ ?_
      exact ⟨a, 0, rfl, fun _ => ke none H Same.rfl' trivial, fun h => absurd rfl h⟩
    | 16, _ =>
      refine SK rfl (by decide) (SK rfl (by decide) (SK rfl (by decide) (SK rfl (by decide) (SK rfl (by decide) (SK rfl (by decide) (SK rfl (by decide) (SK rfl (by decide) (SK rfl (by decide) (SK rfl (by decide) (SK rfl (by decide) (SK rfl (by decide) (SK rfl (by decide) (SK rfl (by decide) (SK rfl (by decide) (SK rfl (by decide) (TK1 rfl rfl ?_))))))))))))))))
      dsimp only [tDrop, tCall]
      refine (pa_c (I0 hl) (pa_c (I1 hl) (pa_c pu_c pa_n))) _ ?_
      exact ⟨a, b, 0, rfl, fun _ => ke none H Same.rfl' trivial, fun h => absurd rfl h⟩
    | n + 17, h => exact absurd h (by omega)
def B16 (n : Nat) : List Bool := [decide (n % 15 = 0), decide (n % 15 = 1), decide (n % 15 = 2), decide (n % 15 = 3)] ++ [decide (n % 15 = 4), decide (n % 15 = 5), decide (n % 15 = 6)] ++ [decide (n % 15 = 7), decide (n % 15 = 8), decide (n % 15 = 9), decide (n % 15 = 10)] ++ [decide (n % 15 = 11), decide (n % 15 = 12), decide (n % 15 = 13), decide (n % 15 = 14)] ++ [true]
def fldD (n : Nat) (a b : Int) : List D := match n with
  | 2 => [.int a, .int b]
  | 4 => [.int a]
  | 6 => [.tup [.int a, .int b, .int 1]]
  | 8 => [.str (Str.ofString "a")]
  | 9 => [.str (Str.ofString "b")]
  | 10 => [.int a]
  | _ => []
def srtD (n : Nat) (a b : Int) : D := .tup [.lst ((B16 n).map D.bl), .lst (fldD n a b)]
theorem ds_bls {hd : Addr} {H : Hp} : ∀ bs : List Bool, DsAt hd H (bs.map V.bl) (bs.map D.bl)
  | [] => .nil
  | b :: bs => .cons (.bl b) (ds_bls bs)
theorem str1 (x : Str) (h : (x.cps.toList.all fun c => decide (c < 128)) = true ∧ x.length ≤ 1000) : (∀ c ∈ x.cps.toList, c < 128) ∧ x.length ≤ 1000 := ⟨fun c hc => of_decide_eq_true (List.all_eq_true.mp h.1 c hc), h.2⟩
theorem gv_catB {σ : L2.St} {H : Hp} {ta : TA} {i : Nat} {p : Addr} {bs cs : List Bool} (hv : σ[i]? = some (some (.ref p))) (hp : H p = some (.lst (bs.map V.bl))) (ha : PuA ta σ H (cs.map V.bl)) (hz : bs.length + cs.length ≤ 1000) :
    Gv (tOp rCat (tVar i) (tLst ta)) σ H (fun v H' => ∃ q, v = .ref q ∧ H q = none ∧ H' q = some (.lst ((bs ++ cs).map V.bl)) ∧ Same H H') := fun Q g => by
  have big : ∀ n : Nat, n ≤ 1000 → n ≤ sizeLine := fun n h => Nat.le_trans h (by decide)
  dsimp only [tOp]
  refine pu_v hv _ (gv_lst ha (big _ (by rw [List.length_map]; omega)) _ ?_)
  rintro _ _ ⟨p2, hp2, rfl, rfl⟩
  refine ⟨p, p2, _, _, rfl, rfl, Same.upd hp2 _ _ hp, upd_same, big _ (by rw [List.length_map, List.length_map]; exact hz), fun p3 hp3 => g _ _ ⟨p3, rfl, same_none (Same.upd hp2) hp3, ?_, (Same.upd hp2).trans (Same.upd hp3)⟩⟩
  rw [upd_same, List.map_append]
def sp_l_sorts : Sp := fun vs H Q _ => ∃ (n : Nat) (l : Addr) (a b : Int), vs = [.int n, .ref l] ∧ n < 17 ∧ H l = some (.lst [.int a, .int b]) ∧ ∀ v H', Same H H' → DAt l H' v (srtD n a b) → Q v H'
theorem sc_l_sorts : FnScope ["_law_which", "_law_some", "_law_found", "_law_fields", "e"] ["_law_which", "_law_some"] (defScope s_l_sorts) := ⟨rfl, rfl, rfl, by decide +kernel, rfl, by decide +kernel, by decide +kernel⟩
theorem ok_l_sorts (T : Txt K mg t) : FnOk P w K mg base CX0 4 t.f_l_sorts t.d_l_sorts ["_law_which", "_law_some"] sp_l_sorts := by
  refine T.l_sorts.F.ok (k := 3) sc_l_sorts (fun vs H Q E h => ?_) (fun cdv A outer s H vs Q E hr h => ?_)
  · obtain ⟨n, l, a, b, rfl, _⟩ := h
    rfl
  · obtain ⟨n, l, a, b, rfl, hn, hl, k⟩ := h
    refine ⟨_, (@pss_cons _ _ _ _ _ (@ps_set _ _ 2 _ _ _ _ sc_l_sorts.nd rfl (Or.inl rfl) (@pe_lst _ _ _ _ (@pa_nil _)) (by rfl) (by first | exact .inl rfl | exact .inr rfl | assumption)) (@pss_cons _ _ _ _ _ (@ps_set _ _ 3 _ _ _ _ sc_l_sorts.nd rfl (Or.inl rfl) (@pe_lst _ _ _ _ (@pa_nil _)) (by rfl) (by first | exact .inl rfl | exact .inr rfl | assumption)) (@pss_cons _ _ _ _ _ (@ps_tryD _ 4 _ _ _ _ _ _ _ _ _ _ _ _ _ _ _ _ _ _ _ _ _ rfl rfl rfl rfl (okx_l_raised T) (hr.mono (by decide)) rfl T.l_raised.m T.l_raised.F.kp T.l_raised.b (@pa_cons _ _ _ _ _ (pv 0) (@pa_cons _ _ _ _ _ (pv 1) (@pa_nil _) star_name) star_name) sc_l_sorts.nd rfl rfl rfl T.m_PlyError (fun _ => (@pss_cons _ _ _ _ _ (@ps_set _ _ 2 _ _ _ _ sc_l_sorts.nd rfl (Or.inl rfl) (@pe_lst _ _ _ _ (@pa_cons _ _ _ _ _ (@pe_callB _ _ _ _ _ _ _ _ _ (call_isinstG (K := K) rfl) (by rfl) T.b_isinstance PyProof.Rows.boot_isinstance (@pa_cons _ _ _ _ _ (pv 4) (@pa_cons _ _ _ _ _ (@pe_cls _ _ _ _ T.m_NoNumber (by rfl) (by decide)) (@pa_nil _) star_name) star_name) (by decide) (by decide) (by rfl) (by rfl)) (@pa_cons _ _ _ _ _ (@pe_callB _ _ _ _ _ _ _ _ _ (call_isinstG (K := K) rfl) (by rfl) T.b_isinstance PyProof.Rows.boot_isinstance (@pa_cons _ _ _ _ _ (pv 4) (@pa_cons _ _ _ _ _ (@pe_cls _ _ _ _ T.m_NoPoint (by rfl) (by decide)) (@pa_nil _) star_name) star_name) (by decide) (by decide) (by rfl) (by rfl)) (@pa_cons _ _ _ _ _ (@pe_callB _ _ _ _ _ _ _ _ _ (call_isinstG (K := K) rfl) (by rfl) T.b_isinstance PyProof.Rows.boot_isinstance (@pa_cons _ _ _ _ _ (pv 4) (@pa_cons _ _ _ _ _ (@pe_cls _ _ _ _ T.m_BadLayer (by rfl) (by decide)) (@pa_nil _) star_name) star_name) (by decide) (by decide) (by rfl) (by rfl)) (@pa_cons _ _ _ _ _ (@pe_callB _ _ _ _ _ _ _ _ _ (call_isinstG (K := K) rfl) (by rfl) T.b_isinstance PyProof.Rows.boot_isinstance (@pa_cons _ _ _ _ _ (pv 4) (@pa_cons _ _ _ _ _ (@pe_cls _ _ _ _ T.m_BadPlan (by rfl) (by decide)) (@pa_nil _) star_name) star_name) (by decide) (by decide) (by rfl) (by rfl)) (@pa_nil _) star_call) star_call) star_call) star_call)) (by rfl) (by first | exact .inl rfl | exact .inr rfl | assumption)) (@pss_cons _ _ _ _ _ (@ps_set _ _ 2 _ _ _ _ sc_l_sorts.nd rfl (Or.inl rfl) (@pe_op _ _ _ _ _ _ _ _ op_cat (pv 2) (@pe_lst _ _ _ _ (@pa_cons _ _ _ _ _ (@pe_callB _ _ _ _ _ _ _ _ _ (call_isinstG (K := K) rfl) (by rfl) T.b_isinstance PyProof.Rows.boot_isinstance (@pa_cons _ _ _ _ _ (pv 4) (@pa_cons _ _ _ _ _ (@pe_cls _ _ _ _ T.m_NoFace (by rfl) (by decide)) (@pa_nil _) star_name) star_name) (by decide) (by decide) (by rfl) (by rfl)) (@pa_cons _ _ _ _ _ (@pe_callB _ _ _ _ _ _ _ _ _ (call_isinstG (K := K) rfl) (by rfl) T.b_isinstance PyProof.Rows.boot_isinstance (@pa_cons _ _ _ _ _ (pv 4) (@pa_cons _ _ _ _ _ (@pe_cls _ _ _ _ T.m_Endless (by rfl) (by decide)) (@pa_nil _) star_name) star_name) (by decide) (by decide) (by rfl) (by rfl)) (@pa_cons _ _ _ _ _ (@pe_callB _ _ _ _ _ _ _ _ _ (call_isinstG (K := K) rfl) (by rfl) T.b_isinstance PyProof.Rows.boot_isinstance (@pa_cons _ _ _ _ _ (pv 4) (@pa_cons _ _ _ _ _ (@pe_cls _ _ _ _ T.m_NoGround (by rfl) (by decide)) (@pa_nil _) star_name) star_name) (by decide) (by decide) (by rfl) (by rfl)) (@pa_nil _) star_call) star_call) star_call))) (by rfl) (by first | exact .inl rfl | exact .inr rfl | assumption)) (@pss_cons _ _ _ _ _ (@ps_set _ _ 2 _ _ _ _ sc_l_sorts.nd rfl (Or.inl rfl) (@pe_op _ _ _ _ _ _ _ _ op_cat (pv 2) (@pe_lst _ _ _ _ (@pa_cons _ _ _ _ _ (@pe_callB _ _ _ _ _ _ _ _ _ (call_isinstG (K := K) rfl) (by rfl) T.b_isinstance PyProof.Rows.boot_isinstance (@pa_cons _ _ _ _ _ (pv 4) (@pa_cons _ _ _ _ _ (@pe_cls _ _ _ _ T.m_NoName (by rfl) (by decide)) (@pa_nil _) star_name) star_name) (by decide) (by decide) (by rfl) (by rfl)) (@pa_cons _ _ _ _ _ (@pe_callB _ _ _ _ _ _ _ _ _ (call_isinstG (K := K) rfl) (by rfl) T.b_isinstance PyProof.Rows.boot_isinstance (@pa_cons _ _ _ _ _ (pv 4) (@pa_cons _ _ _ _ _ (@pe_cls _ _ _ _ T.m_Taken (by rfl) (by decide)) (@pa_nil _) star_name) star_name) (by decide) (by decide) (by rfl) (by rfl)) (@pa_cons _ _ _ _ _ (@pe_callB _ _ _ _ _ _ _ _ _ (call_isinstG (K := K) rfl) (by rfl) T.b_isinstance PyProof.Rows.boot_isinstance (@pa_cons _ _ _ _ _ (pv 4) (@pa_cons _ _ _ _ _ (@pe_cls _ _ _ _ T.m_NoLayer (by rfl) (by decide)) (@pa_nil _) star_name) star_name) (by decide) (by decide) (by rfl) (by rfl)) (@pa_cons _ _ _ _ _ (@pe_callB _ _ _ _ _ _ _ _ _ (call_isinstG (K := K) rfl) (by rfl) T.b_isinstance PyProof.Rows.boot_isinstance (@pa_cons _ _ _ _ _ (pv 4) (@pa_cons _ _ _ _ _ (@pe_cls _ _ _ _ T.m_TooMany (by rfl) (by decide)) (@pa_nil _) star_name) star_name) (by decide) (by decide) (by rfl) (by rfl)) (@pa_nil _) star_call) star_call) star_call) star_call))) (by rfl) (by first | exact .inl rfl | exact .inr rfl | assumption)) (@pss_cons _ _ _ _ _ (@ps_set _ _ 2 _ _ _ _ sc_l_sorts.nd rfl (Or.inl rfl) (@pe_op _ _ _ _ _ _ _ _ op_cat (pv 2) (@pe_lst _ _ _ _ (@pa_cons _ _ _ _ _ (@pe_callB _ _ _ _ _ _ _ _ _ (call_isinstG (K := K) rfl) (by rfl) T.b_isinstance PyProof.Rows.boot_isinstance (@pa_cons _ _ _ _ _ (pv 4) (@pa_cons _ _ _ _ _ (@pe_cls _ _ _ _ T.m_BadWish (by rfl) (by decide)) (@pa_nil _) star_name) star_name) (by decide) (by decide) (by rfl) (by rfl)) (@pa_cons _ _ _ _ _ (@pe_callB _ _ _ _ _ _ _ _ _ (call_isinstG (K := K) rfl) (by rfl) T.b_isinstance PyProof.Rows.boot_isinstance (@pa_cons _ _ _ _ _ (pv 4) (@pa_cons _ _ _ _ _ (@pe_cls _ _ _ _ T.m_NoSize (by rfl) (by decide)) (@pa_nil _) star_name) star_name) (by decide) (by decide) (by rfl) (by rfl)) (@pa_cons _ _ _ _ _ (@pe_callB _ _ _ _ _ _ _ _ _ (call_isinstG (K := K) rfl) (by rfl) T.b_isinstance PyProof.Rows.boot_isinstance (@pa_cons _ _ _ _ _ (pv 4) (@pa_cons _ _ _ _ _ (@pe_cls _ _ _ _ T.m_NoText (by rfl) (by decide)) (@pa_nil _) star_name) star_name) (by decide) (by decide) (by rfl) (by rfl)) (@pa_cons _ _ _ _ _ (@pe_callB _ _ _ _ _ _ _ _ _ (call_isinstG (K := K) rfl) (by rfl) T.b_isinstance PyProof.Rows.boot_isinstance (@pa_cons _ _ _ _ _ (pv 4) (@pa_cons _ _ _ _ _ (@pe_cls _ _ _ _ T.m_NoRow (by rfl) (by decide)) (@pa_nil _) star_name) star_name) (by decide) (by decide) (by rfl) (by rfl)) (@pa_nil _) star_call) star_call) star_call) star_call))) (by rfl) (by first | exact .inl rfl | exact .inr rfl | assumption)) (@pss_cons _ _ _ _ _ (@ps_set _ _ 2 _ _ _ _ sc_l_sorts.nd rfl (Or.inl rfl) (@pe_op _ _ _ _ _ _ _ _ op_cat (pv 2) (@pe_lst _ _ _ _ (@pa_cons _ _ _ _ _ (@pe_callB _ _ _ _ _ _ _ _ _ (call_isinstG (K := K) rfl) (by rfl) T.b_isinstance PyProof.Rows.boot_isinstance (@pa_cons _ _ _ _ _ (pv 4) (@pa_cons _ _ _ _ _ (@pe_ty _ _ _ _ T.b_ValueError PyProof.Rows.Boot.«ValueError» (by rfl) (by decide) (by decide)) (@pa_nil _) star_name) star_name) (by decide) (by decide) (by rfl) (by rfl)) (@pa_nil _) star_call))) (by rfl) (by first | exact .inl rfl | exact .inr rfl | assumption)) (@pss_cons _ _ _ _ _ (@ps_if _ _ _ _ _ _ _ _ (@pt_cmpR _ _ _ _ _ _ _ _ op_eq (pv 0) (@pe_int _ _ _ _) (nomark _)) (@pss_one _ _ _ (@ps_set _ _ 3 _ _ _ _ sc_l_sorts.nd rfl (Or.inl rfl) (@pe_lst _ _ _ _ (@pa_cons _ _ _ _ _ (pe_fldEK (K := K) rfl (pv 4) rfl) (@pa_cons _ _ _ _ _ (pe_fldEK (K := K) rfl (pv 4) rfl) (@pa_nil _) star_attr) star_attr)) (by rfl) (by first | exact .inl rfl | exact .inr rfl | assumption))) (@pss_nil _)) (@pss_cons _ _ _ _ _ (@ps_if _ _ _ _ _ _ _ _ (@pt_cmpR _ _ _ _ _ _ _ _ op_eq (pv 0) (@pe_int _ _ _ _) (nomark _)) (@pss_one _ _ _ (@ps_set _ _ 3 _ _ _ _ sc_l_sorts.nd rfl (Or.inl rfl) (@pe_lst _ _ _ _ (@pa_cons _ _ _ _ _ (pe_fldEK (K := K) rfl (pv 4) rfl) (@pa_nil _) star_attr)) (by rfl) (by first | exact .inl rfl | exact .inr rfl | assumption))) (@pss_nil _)) (@pss_cons _ _ _ _ _ (@ps_if _ _ _ _ _ _ _ _ (@pt_cmpR _ _ _ _ _ _ _ _ op_eq (pv 0) (@pe_int _ _ _ _) (nomark _)) (@pss_one _ _ _ (@ps_set _ _ 3 _ _ _ _ sc_l_sorts.nd rfl (Or.inl rfl) (@pe_lst _ _ _ _ (@pa_cons _ _ _ _ _ (pe_fldEK (K := K) rfl (pv 4) rfl) (@pa_nil _) star_attr)) (by rfl) (by first | exact .inl rfl | exact .inr rfl | assumption))) (@pss_nil _)) (@pss_cons _ _ _ _ _ (@ps_if _ _ _ _ _ _ _ _ (PW.pt (@pw_or _ _ _ _ _ _ _ (@pt_cmpR _ _ _ _ _ _ _ _ op_eq (pv 0) (@pe_int _ _ _ _) (nomark _)) (@pw_or1 _ _ _ _ (@pt_cmpR _ _ _ _ _ _ _ _ op_eq (pv 0) (@pe_int _ _ _ _) (nomark _))))) (@pss_one _ _ _ (@ps_set _ _ 3 _ _ _ _ sc_l_sorts.nd rfl (Or.inl rfl) (@pe_lst _ _ _ _ (@pa_cons _ _ _ _ _ (pe_fldEK (K := K) rfl (pv 4) rfl) (@pa_nil _) star_attr)) (by rfl) (by first | exact .inl rfl | exact .inr rfl | assumption))) (@pss_nil _)) (@pss_one _ _ _ (@ps_if _ _ _ _ _ _ _ _ (@pt_cmpR _ _ _ _ _ _ _ _ op_eq (pv 0) (@pe_int _ _ _ _) (nomark _)) (@pss_one _ _ _ (@ps_set _ _ 3 _ _ _ _ sc_l_sorts.nd rfl (Or.inl rfl) (@pe_lst _ _ _ _ (@pa_cons _ _ _ _ _ (pe_fldEK (K := K) rfl (pv 4) rfl) (@pa_nil _) star_attr)) (by rfl) (by first | exact .inl rfl | exact .inr rfl | assumption))) (@pss_nil _))))))))))))) (by rfl) (by decide) (by decide) (by rfl) (by rfl)) (@pss_one _ _ _ (@ps_ret _ _ _ _ (@pe_tup _ _ _ _ _ (@pa_cons _ _ _ _ _ (pv 2) (@pa_cons _ _ _ _ _ (pv 3) (@pa_nil _) star_name) star_name))))))), ?_⟩
    have SK : ∀ {m' c : Int} {σ : L2.St} {H' : Hp} {En : Ends} {t rest : TS}, σ[0]? = some (some (.int m')) → m' ≠ c → rest En σ H' → tSeq (tIfS (tTest (tOp rEq (tVar 0) (tC (.int c)))) t tNext) rest En σ H' := fun h n q => st_ifN (pt_t (pu_eqI (pu_v h) pu_c)) (fun e => absurd (of_decide_eq_true e) n) fun _ => q
    have TK : ∀ {m' c : Int} {σ : L2.St} {H' : Hp} {En : Ends} {t rest : TS}, σ[0]? = some (some (.int m')) → m' = c → t { En with nx := rest En } σ H' → tSeq (tIfS (tTest (tOp rEq (tVar 0) (tC (.int c)))) t tNext) rest En σ H' := fun h n q => st_ifN (b := true) (pt_t (pu_cast (pu_eqI (pu_v h) pu_c) (by rw [decide_eq_true n]))) (fun _ => q) (fun e => by cases e)
    have SK1 : ∀ {m' c : Int} {σ : L2.St} {H' : Hp} {En : Ends} {t : TS}, σ[0]? = some (some (.int m')) → m' ≠ c → En.nx σ H' → tIfS (tTest (tOp rEq (tVar 0) (tC (.int c)))) t tNext En σ H' := fun h n q => st_ifN1 (pt_t (pu_eqI (pu_v h) pu_c)) (fun e => absurd (of_decide_eq_true e) n) (fun _ => q)
    have TK1 : ∀ {m' c : Int} {σ : L2.St} {H' : Hp} {En : Ends} {t : TS}, σ[0]? = some (some (.int m')) → m' = c → t En σ H' → tIfS (tTest (tOp rEq (tVar 0) (tC (.int c)))) t tNext En σ H' := fun h n q => st_ifN1 (b := true) (pt_t (pu_cast (pu_eqI (pu_v h) pu_c) (by rw [decide_eq_true n]))) (fun _ => q) (fun e => by cases e)
    have SK2 : ∀ {m' c c' : Int} {σ : L2.St} {H' : Hp} {En : Ends} {t rest : TS}, σ[0]? = some (some (.int m')) → m' ≠ c → m' ≠ c' → rest En σ H' → tSeq (tIfS (tOr (tTest (tOp rEq (tVar 0) (tC (.int c)))) (tTest (tOp rEq (tVar 0) (tC (.int c'))))) t tNext) rest En σ H' := fun h n n' q => st_ifN (b := false) (pt_or (b := false) (c := false) (pt_t (pu_cast (pu_eqI (pu_v h) pu_c) (by rw [decide_eq_false n]))) fun _ => pt_t (pu_cast (pu_eqI (pu_v h) pu_c) (by rw [decide_eq_false n']))) (fun e => by cases e) fun _ => q
    have TK2 : ∀ {m' c c' : Int} {σ : L2.St} {H' : Hp} {En : Ends} {t rest : TS}, σ[0]? = some (some (.int m')) → (decide (m' = c) || decide (m' = c')) = true → t { En with nx := rest En } σ H' → tSeq (tIfS (tOr (tTest (tOp rEq (tVar 0) (tC (.int c)))) (tTest (tOp rEq (tVar 0) (tC (.int c'))))) t tNext) rest En σ H' := fun h n q => st_ifN (pt_or (pt_t (pu_eqI (pu_v h) pu_c)) fun _ => pt_t (pu_eqI (pu_v h) pu_c)) (fun _ => q) (fun e => by rw [n] at e; cases e)
    refine st_setG (gv_lst pa_n (by show 0 ≤ sizeLine; decide)) ?_
    rintro _ _ ⟨p0, hp0, rfl, rfl⟩
    refine st_setG (gv_lst pa_n (by show 0 ≤ sizeLine; decide)) ?_
    rintro _ _ ⟨p1, hp1, rfl, rfl⟩
    have s1 : Same H (upd H p0 (.lst [])) := Same.upd hp0
    have s2 : Same (upd H p0 (.lst [])) (upd (upd H p0 (.lst [])) p1 (.lst [])) := Same.upd hp1
    have s12 := s1.trans s2
    have hp1l : p1 ≠ l := fun e => by rw [e, s1 _ _ hl] at hp1; cases hp1
    have FI : ∀ {σ : L2.St} {H' : Hp} {En : Ends} {q r : Addr} {xs : List V}, σ[2]? = some (some (.ref q)) → σ[3]? = some (some (.ref r)) → H' q = some (.lst ((B16 n).map V.bl)) → q ≠ l → H' r = some (.lst xs) → r ≠ l → DsAt l H' xs (fldD n a b) → Same H H' → En.rt = Q → tRet (tTup (tCons (tVar 2) (tCons (tVar 3) tNil))) En σ H' := fun {σ H' En q r xs} h2 h3 hq nq hr nr ht s' er => by
      refine st_retG (gv_tup (pa_c (pu_v h2) (pa_c (pu_v h3) pa_n)) (by show 2 ≤ sizeLine; decide)) ?_
      rintro _ _ ⟨p, hp, rfl, rfl⟩
      have s5 : Same H' (upd H' p (.tup [.ref q, .ref r])) := Same.upd hp
      rw [er]
      exact k _ _ (s'.trans s5) (.tup upd_same (.cons (.lst (s5 _ _ hq) nq (ds_bls _)) (.cons (.lst (s5 _ _ hr) nr (ht.same s5)) .nil)))
    have hkits : kits K t.c_PlyError (cls15 t) = true := T.kits
    have hnd : (cls15 t).Nodup := of_decide_eq_true T.nodu
    have hlt : n % 15 < (cls15 t).length := Nat.mod_lt _ (by decide)
    have hC : (cls15 t)[n % 15]? = some ((cls15 t).getD (n % 15) 0) := by rw [List.getD_eq_getElem?_getD, List.getElem?_eq_getElem hlt]; rfl
    obtain ⟨x1, x2, x3, x4⟩ := kits_at hkits (List.mem_of_getElem? hC)
    refine st_tryD (pa_c (pu_v rfl) (pa_c (pu_v rfl) pa_n)) ?_
    refine ⟨n, l, a, b, rfl, hn, s12 _ _ hl, fun dd H4 s4 fl => ⟨x2, fun ea hea => ?_⟩⟩
    have s5 : Same H4 (upd H4 ea (.ext (exG ea (.ref ((cls15 t).getD (n % 15) 0)) dd))) := Same.upd hea
    have he : (upd H4 ea (.ext (exG ea (.ref ((cls15 t).getD (n % 15) 0)) dd))) ea = some (.ext (exG ea (.ref ((cls15 t).getD (n % 15) 0)) dd)) := upd_same
    generalize hH5 : upd H4 ea (.ext (exG ea (.ref ((cls15 t).getD (n % 15) 0)) dd)) = H5 at s5 he ⊢
    have s05 := s12.trans (s4.trans s5)
    have IS : ∀ {H' : Hp} {σ : L2.St} {c : Addr} (j : Nat), (cls15 t)[j]? = some c → Same H5 H' → σ[4]? = some (some (.ref ea)) → Pu (tCB (fun xs H Q => ∃ a C c u b dd, xs = [.ref a, c] ∧ H a = some (.ext (exG a (.ref C) dd)) ∧ exC K C = true ∧ IsCls c u ∧ PySem.W.kitOne K (.ref C) u = some b ∧ Q (.bl b) H) (tCons (tVar 4) (tCons (tC (.ref c)) tNil))) σ H' (.bl (decide (n % 15 = j))) := fun {H' σ c} j hj s h => pu_isG (pa_c (pu_v h) (pa_c pu_c pa_n)) (s _ _ he) x1 (.ref c) (by rw [x4 c (List.mem_of_getElem? hj), nodup_at hnd hC hj])
    have IV : ∀ {H' : Hp} {σ : L2.St}, Same H5 H' → σ[4]? = some (some (.ref ea)) → Pu (tCB (fun xs H Q => ∃ a C c u b dd, xs = [.ref a, c] ∧ H a = some (.ext (exG a (.ref C) dd)) ∧ exC K C = true ∧ IsCls c u ∧ PySem.W.kitOne K (.ref C) u = some b ∧ Q (.bl b) H) (tCons (tVar 4) (tCons (tC (.ty "ValueError")) tNil))) σ H' (.bl true) := fun {H' σ} s h => pu_isG (pa_c (pu_v h) (pa_c pu_c pa_n)) (s _ _ he) x1 (.ty _) x3
    refine st_setG (gv_lst (pa_c (IS 0 rfl Same.rfl' rfl) (pa_c (IS 1 rfl Same.rfl' rfl) (pa_c (IS 2 rfl Same.rfl' rfl) (pa_c (IS 3 rfl Same.rfl' rfl) pa_n)))) (by show 4 ≤ sizeLine; decide)) ?_
    rintro _ _ ⟨q1, hq1, rfl, rfl⟩
    have t1 : Same H5 _ := Same.upd (o := .lst [.bl (decide (n % 15 = 0)), .bl (decide (n % 15 = 1)), .bl (decide (n % 15 = 2)), .bl (decide (n % 15 = 3))]) hq1
    refine st_setG (gv_catB (bs := [decide (n % 15 = 0), decide (n % 15 = 1), decide (n % 15 = 2), decide (n % 15 = 3)]) (cs := [decide (n % 15 = 4), decide (n % 15 = 5), decide (n % 15 = 6)]) rfl upd_same (pa_c (IS 4 rfl t1 rfl) (pa_c (IS 5 rfl t1 rfl) (pa_c (IS 6 rfl t1 rfl) pa_n))) (by simp)) ?_
    rintro _ H6 ⟨q2, rfl, hq2, hq2', t2⟩
    have t12 := t1.trans t2
    refine st_setG (gv_catB (cs := [decide (n % 15 = 7), decide (n % 15 = 8), decide (n % 15 = 9), decide (n % 15 = 10)]) rfl hq2' (pa_c (IS 7 rfl t12 rfl) (pa_c (IS 8 rfl t12 rfl) (pa_c (IS 9 rfl t12 rfl) (pa_c (IS 10 rfl t12 rfl) pa_n)))) (by simp)) ?_
    rintro _ H7 ⟨q3, rfl, hq3, hq3', t3⟩
    have t13 := t12.trans t3
    refine st_setG (gv_catB (cs := [decide (n % 15 = 11), decide (n % 15 = 12), decide (n % 15 = 13), decide (n % 15 = 14)]) rfl hq3' (pa_c (IS 11 rfl t13 rfl) (pa_c (IS 12 rfl t13 rfl) (pa_c (IS 13 rfl t13 rfl) (pa_c (IS 14 rfl t13 rfl) pa_n)))) (by simp)) ?_
    rintro _ H8 ⟨q4, rfl, hq4, hq4', t4⟩
    have t14 := t13.trans t4
    refine st_setG (gv_catB (cs := [true]) rfl hq4' (pa_c (IV t14 rfl) pa_n) (by simp)) ?_
    rintro _ H9 ⟨q5, rfl, hq5, hq5', t5⟩
    have t15 := t14.trans t5
    have s09 := s05.trans t15
    have nq : q5 ≠ l := fun e => by rw [e, t14 _ _ (s05 _ _ hl)] at hq5; cases hq5
    have he9 := t15 _ _ he
    have h19 : H9 p1 = some (.lst []) := t15 _ _ (s5 _ _ (s4 _ _ upd_same))
    have s49 : Same H4 H9 := s5.trans t15
    have fl9 : FlK n a b dd H9 := by
      unfold FlK at fl ⊢
      split at fl
      · obtain ⟨dx, e, h⟩ := fl; exact ⟨dx, e, s49 _ _ h⟩
      · obtain ⟨dx, e, h⟩ := fl; exact ⟨dx, e, s49 _ _ h⟩
      · obtain ⟨dx, p, e, h, h'⟩ := fl; exact ⟨dx, p, e, s49 _ _ h, s49 _ _ h'⟩
      · obtain ⟨dx, e, h⟩ := fl; exact ⟨dx, e, s49 _ _ h⟩
      · obtain ⟨dx, e, h⟩ := fl; exact ⟨dx, e, s49 _ _ h⟩
      · obtain ⟨dx, e, h⟩ := fl; exact ⟨dx, e, s49 _ _ h⟩
      · trivial
    have nr : ∀ {r : Addr}, H9 r = none → r ≠ l := fun {r} h e => by rw [e, s09 _ _ hl] at h; cases h
    clear fl hlt hC x1 x2 x3 x4 IS IV
    have hc : n = 0 ∨ n = 1 ∨ n = 2 ∨ n = 3 ∨ n = 4 ∨ n = 5 ∨ n = 6 ∨ n = 7 ∨ n = 8 ∨ n = 9 ∨ n = 10 ∨ n = 11 ∨ n = 12 ∨ n = 13 ∨ n = 14 ∨ n = 15 ∨ n = 16 := by omega
    rcases hc with rfl | rfl | rfl | rfl | rfl | rfl | rfl | rfl | rfl | rfl | rfl | rfl | rfl | rfl | rfl | rfl | rfl
    · refine SK rfl (by decide) (SK rfl (by decide) (SK rfl (by decide) (SK2 rfl (by decide) (by decide) (SK1 rfl (by decide) ?_))))
      exact FI rfl rfl hq5' nq h19 hp1l .nil s09 rfl
    · refine SK rfl (by decide) (SK rfl (by decide) (SK rfl (by decide) (SK2 rfl (by decide) (by decide) (SK1 rfl (by decide) ?_))))
      exact FI rfl rfl hq5' nq h19 hp1l .nil s09 rfl
    · obtain ⟨dx, rfl, hdx⟩ := fl9
      refine TK rfl rfl ?_
      refine st_setG1 (gv_lst (pa_c (pu_fldE (pu_v rfl) he9 hdx T.xc_BadLayer T.n_BadLayer_ring rfl) (pa_c (pu_fldE (pu_v rfl) he9 hdx T.xc_BadLayer T.n_BadLayer_at rfl) pa_n)) (by show 2 ≤ sizeLine; decide)) ?_
      rintro _ _ ⟨r, hr', rfl, rfl⟩
      refine SK rfl (by decide) (SK rfl (by decide) (SK2 rfl (by decide) (by decide) (SK1 rfl (by decide) ?_)))
      exact FI rfl rfl (Same.upd hr' _ _ hq5') nq upd_same (nr hr') (.cons (.int a) (.cons (.int b) .nil)) (s09.trans (Same.upd hr')) rfl
    · refine SK rfl (by decide) (SK rfl (by decide) (SK rfl (by decide) (SK2 rfl (by decide) (by decide) (SK1 rfl (by decide) ?_))))
      exact FI rfl rfl hq5' nq h19 hp1l .nil s09 rfl
    · obtain ⟨dx, rfl, hdx⟩ := fl9
      refine SK rfl (by decide) (TK rfl rfl ?_)
      refine st_setG1 (gv_lst (pa_c (pu_fldE (pu_v rfl) he9 hdx T.xc_NoFace T.n_NoFace_number rfl) pa_n) (by show 1 ≤ sizeLine; decide)) ?_
      rintro _ _ ⟨r, hr', rfl, rfl⟩
      refine SK rfl (by decide) (SK2 rfl (by decide) (by decide) (SK1 rfl (by decide) ?_))
      exact FI rfl rfl (Same.upd hr' _ _ hq5') nq upd_same (nr hr') (.cons (.int a) .nil) (s09.trans (Same.upd hr')) rfl
    · refine SK rfl (by decide) (SK rfl (by decide) (SK rfl (by decide) (SK2 rfl (by decide) (by decide) (SK1 rfl (by decide) ?_))))
      exact FI rfl rfl hq5' nq h19 hp1l .nil s09 rfl
    · obtain ⟨dx, p6, rfl, hdx, hp6⟩ := fl9
      refine SK rfl (by decide) (SK rfl (by decide) (TK rfl rfl ?_))
      refine st_setG1 (gv_lst (pa_c (pu_fldE (pu_v rfl) he9 hdx T.xc_NoGround T.n_NoGround_point rfl) pa_n) (by show 1 ≤ sizeLine; decide)) ?_
      rintro _ _ ⟨r, hr', rfl, rfl⟩
      refine SK2 rfl (by decide) (by decide) (SK1 rfl (by decide) ?_)
      exact FI rfl rfl (Same.upd hr' _ _ hq5') nq upd_same (nr hr') (.cons (.tup (Same.upd hr' _ _ hp6) (.cons (.int a) (.cons (.int b) (.cons (.int 1) .nil)))) .nil) (s09.trans (Same.upd hr')) rfl
    · refine SK rfl (by decide) (SK rfl (by decide) (SK rfl (by decide) (SK2 rfl (by decide) (by decide) (SK1 rfl (by decide) ?_))))
      exact FI rfl rfl hq5' nq h19 hp1l .nil s09 rfl
    · obtain ⟨dx, rfl, hdx⟩ := fl9
      refine SK rfl (by decide) (SK rfl (by decide) (SK rfl (by decide) (TK2 rfl (by decide) ?_)))
      refine st_setG1 (gv_lst (pa_c (pu_fldE (pu_v rfl) he9 hdx T.xc_Taken T.n_Taken_name rfl) pa_n) (by show 1 ≤ sizeLine; decide)) ?_
      rintro _ _ ⟨r, hr', rfl, rfl⟩
      refine SK1 rfl (by decide) ?_
      exact FI rfl rfl (Same.upd hr' _ _ hq5') nq upd_same (nr hr') (.cons (.str _ (str1 _ (by decide +kernel))) .nil) (s09.trans (Same.upd hr')) rfl
    · obtain ⟨dx, rfl, hdx⟩ := fl9
      refine SK rfl (by decide) (SK rfl (by decide) (SK rfl (by decide) (TK2 rfl (by decide) ?_)))
      refine st_setG1 (gv_lst (pa_c (pu_fldE (pu_v rfl) he9 hdx T.xc_NoLayer T.n_NoLayer_name rfl) pa_n) (by show 1 ≤ sizeLine; decide)) ?_
      rintro _ _ ⟨r, hr', rfl, rfl⟩
      refine SK1 rfl (by decide) ?_
      exact FI rfl rfl (Same.upd hr' _ _ hq5') nq upd_same (nr hr') (.cons (.str _ (str1 _ (by decide +kernel))) .nil) (s09.trans (Same.upd hr')) rfl
    · obtain ⟨dx, rfl, hdx⟩ := fl9
      refine SK rfl (by decide) (SK rfl (by decide) (SK rfl (by decide) (SK2 rfl (by decide) (by decide) (TK1 rfl rfl ?_))))
      refine st_setG1 (gv_lst (pa_c (pu_fldE (pu_v rfl) he9 hdx T.xc_TooMany T.n_TooMany_most rfl) pa_n) (by show 1 ≤ sizeLine; decide)) ?_
      rintro _ _ ⟨r, hr', rfl, rfl⟩
      exact FI rfl rfl (Same.upd hr' _ _ hq5') nq upd_same (nr hr') (.cons (.int a) .nil) (s09.trans (Same.upd hr')) rfl
    · refine SK rfl (by decide) (SK rfl (by decide) (SK rfl (by decide) (SK2 rfl (by decide) (by decide) (SK1 rfl (by decide) ?_))))
      exact FI rfl rfl hq5' nq h19 hp1l .nil s09 rfl
    · refine SK rfl (by decide) (SK rfl (by decide) (SK rfl (by decide) (SK2 rfl (by decide) (by decide) (SK1 rfl (by decide) ?_))))
      exact FI rfl rfl hq5' nq h19 hp1l .nil s09 rfl
    · refine SK rfl (by decide) (SK rfl (by decide) (SK rfl (by decide) (SK2 rfl (by decide) (by decide) (SK1 rfl (by decide) ?_))))
      exact FI rfl rfl hq5' nq h19 hp1l .nil s09 rfl
    · refine SK rfl (by decide) (SK rfl (by decide) (SK rfl (by decide) (SK2 rfl (by decide) (by decide) (SK1 rfl (by decide) ?_))))
      exact FI rfl rfl hq5' nq h19 hp1l .nil s09 rfl
    · refine SK rfl (by decide) (SK rfl (by decide) (SK rfl (by decide) (SK2 rfl (by decide) (by decide) (SK1 rfl (by decide) ?_))))
      exact FI rfl rfl hq5' nq h19 hp1l .nil s09 rfl
    · refine SK rfl (by decide) (SK rfl (by decide) (SK rfl (by decide) (SK2 rfl (by decide) (by decide) (SK1 rfl (by decide) ?_))))
      exact FI rfl rfl hq5' nq h19 hp1l .nil s09 rfl
theorem B16_eq (n : Nat) : B16 n = (List.range 15).map (fun i => decide (n % 15 = i)) ++ [true] := rfl
theorem okEs_bls (k : Nat) : ∀ bs : List Bool, okEs k (bs.map D.bl) = true
  | [] => by cases k <;> rfl
  | b :: bs => by
    show (okE k (.bl b) && okEs k (bs.map D.bl)) = true
    rw [okEs_bls k bs]
    cases k <;> rfl
theorem fld_ok (n : Nat) (a b : Int) : okEs 18 (fldD n a b) = true := by
  unfold fldD
  split <;> first | rfl | decide +kernel
theorem srt_ok (n : Nat) (a b : Int) : okE 20 (srtD n a b) = true := by
  show (okE 19 (.lst ((B16 n).map D.bl)) && (okE 19 (.lst (fldD n a b)) && true)) = true
  rw [show okE 19 (.lst ((B16 n).map D.bl)) = okEs 18 ((B16 n).map D.bl) from rfl, okEs_bls, show okE 19 (.lst (fldD n a b)) = okEs 18 (fldD n a b) from rfl, fld_ok]
  rfl
def sp_l_apart : Sp := fun vs H Q _ => ∃ (n : Nat) (l : Addr) (a b : Int), vs = [.int n, .ref l] ∧ n < 17 ∧ H l = some (.lst [.int a, .int b]) ∧ ∀ H', Same H H' → Q (.bl true) H'
theorem sc_l_apart : FnScope ["_law_which", "_law_some", "_law_wants", "_law_fields"] ["_law_which", "_law_some"] (defScope s_l_apart) := ⟨rfl, rfl, rfl, by decide +kernel, rfl, by decide +kernel, by decide +kernel⟩
theorem ok_l_apart (T : Txt K mg t) : FnOk P w K mg base CX0 5 t.f_l_apart t.d_l_apart ["_law_which", "_law_some"] sp_l_apart := by
  refine T.l_apart.F.ok (k := 4) sc_l_apart (fun vs H Q E h => ?_) (fun cdv A outer s H vs Q E hr h => ?_)
  · obtain ⟨n, l, a, b, rfl, _⟩ := h
    rfl
  · obtain ⟨n, l, a, b, rfl, hn, hl, k⟩ := h
    refine ⟨_, (@pss_cons _ _ _ _ _ (@ps_set _ _ 2 _ _ _ _ sc_l_apart.nd rfl (Or.inl rfl) (@pe_op _ _ _ _ _ _ _ _ op_cat (@pe_lcompC _ "_law_k" "_law_which" _ _ _ _ _ _ _ _ 0 rfl (@pi_range1 _ _ _ _ _ _ rfl T.b_range (@pa_cons _ _ _ _ _ (@pe_int _ _ _ _) (@pa_nil _) star_con) (by rfl)) (fun _ _ _ _ => pg_name (i := 0) (show (["_law_k", "_law_which"] : List Str).Nodup from by decide +kernel) rfl (Or.inl rfl) (.inr rfl)) (fun _ _ _ _ => (@pe_cmpR _ _ _ _ _ _ _ _ op_eq (pv 0) (@pe_op _ _ _ _ _ _ _ _ op_modN (pv 1) (@pe_int _ _ _ _)) (nomark _))) rfl rfl (by decide +kernel) (by decide +kernel) rfl rfl rfl rfl rfl (by intro _; rfl)) (@pe_lst _ _ _ _ (@pa_cons _ _ _ _ _ (@pe_bl _ _ _ _) (@pa_nil _) star_con))) (by rfl) (by first | exact .inl rfl | exact .inr rfl | assumption)) (@pss_cons _ _ _ _ _ (@ps_set _ _ 3 _ _ _ _ sc_l_apart.nd rfl (Or.inl rfl) (@pe_lst _ _ _ _ (@pa_nil _)) (by rfl) (by first | exact .inl rfl | exact .inr rfl | assumption)) (@pss_cons _ _ _ _ _ (@ps_if _ _ _ _ _ _ _ _ (@pt_cmpR _ _ _ _ _ _ _ _ op_eq (pv 0) (@pe_int _ _ _ _) (nomark _)) (@pss_one _ _ _ (@ps_set _ _ 3 _ _ _ _ sc_l_apart.nd rfl (Or.inl rfl) (@pe_lst _ _ _ _ (@pa_cons _ _ _ _ _ (@pe_ix _ _ _ _ _ _ _ ix_list (pv 1) (@pe_int _ _ _ _) (fun _ _ => rfl)) (@pa_cons _ _ _ _ _ (@pe_ix _ _ _ _ _ _ _ ix_list (pv 1) (@pe_int _ _ _ _) (fun _ _ => rfl)) (@pa_nil _) star_sub) star_sub)) (by rfl) (by first | exact .inl rfl | exact .inr rfl | assumption))) (@pss_nil _)) (@pss_cons _ _ _ _ _ (@ps_if _ _ _ _ _ _ _ _ (PW.pt (@pw_or _ _ _ _ _ _ _ (@pt_cmpR _ _ _ _ _ _ _ _ op_eq (pv 0) (@pe_int _ _ _ _) (nomark _)) (@pw_or1 _ _ _ _ (@pt_cmpR _ _ _ _ _ _ _ _ op_eq (pv 0) (@pe_int _ _ _ _) (nomark _))))) (@pss_one _ _ _ (@ps_set _ _ 3 _ _ _ _ sc_l_apart.nd rfl (Or.inl rfl) (@pe_lst _ _ _ _ (@pa_cons _ _ _ _ _ (@pe_ix _ _ _ _ _ _ _ ix_list (pv 1) (@pe_int _ _ _ _) (fun _ _ => rfl)) (@pa_nil _) star_sub)) (by rfl) (by first | exact .inl rfl | exact .inr rfl | assumption))) (@pss_nil _)) (@pss_cons _ _ _ _ _ (@ps_if _ _ _ _ _ _ _ _ (@pt_cmpR _ _ _ _ _ _ _ _ op_eq (pv 0) (@pe_int _ _ _ _) (nomark _)) (@pss_one _ _ _ (@ps_set _ _ 3 _ _ _ _ sc_l_apart.nd rfl (Or.inl rfl) (@pe_lst _ _ _ _ (@pa_cons _ _ _ _ _ (@pe_tup _ _ _ _ _ (@pa_cons _ _ _ _ _ (@pe_ix _ _ _ _ _ _ _ ix_list (pv 1) (@pe_int _ _ _ _) (fun _ _ => rfl)) (@pa_cons _ _ _ _ _ (@pe_ix _ _ _ _ _ _ _ ix_list (pv 1) (@pe_int _ _ _ _) (fun _ _ => rfl)) (@pa_cons _ _ _ _ _ (@pe_int _ _ _ _) (@pa_nil _) star_con) star_sub) star_sub)) (@pa_nil _) star_tup)) (by rfl) (by first | exact .inl rfl | exact .inr rfl | assumption))) (@pss_nil _)) (@pss_cons _ _ _ _ _ (@ps_if _ _ _ _ _ _ _ _ (PW.pt (@pw_or _ _ _ _ _ _ _ (@pt_cmpR _ _ _ _ _ _ _ _ op_eq (pv 0) (@pe_int _ _ _ _) (nomark _)) (@pw_or1 _ _ _ _ (@pt_cmpR _ _ _ _ _ _ _ _ op_eq (pv 0) (@pe_int _ _ _ _) (nomark _))))) (@pss_one _ _ _ (@ps_set _ _ 3 _ _ _ _ sc_l_apart.nd rfl (Or.inl rfl) (@pe_lst _ _ _ _ (@pa_cons _ _ _ _ _ (@pe_ix _ _ _ _ _ _ _ ix_list (@pe_lst _ _ _ _ (@pa_cons _ _ _ _ _ (@pe_str _ _ _ _) (@pa_cons _ _ _ _ _ (@pe_str _ _ _ _) (@pa_nil _) star_con) star_con)) (@pe_op _ _ _ _ _ _ _ _ op_sub (pv 0) (@pe_int _ _ _ _)) (fun _ _ => rfl)) (@pa_nil _) star_sub)) (by rfl) (by first | exact .inl rfl | exact .inr rfl | assumption))) (@pss_nil _)) (@pss_one _ _ _ (@ps_ret _ _ _ _ (@pe_cmpR _ _ _ _ _ _ _ _ (op_eqE hr.units) (@pe_fn _ _ _ _ _ _ _ _ _ _ _ _ _ _ T.l_sorts (ok_l_sorts T) hr (by decide) (@pa_cons _ _ _ _ _ (pv 0) (@pa_cons _ _ _ _ _ (pv 1) (@pa_nil _) star_name) star_name) (by rfl) (by decide) (by rfl) (by rfl)) (@pe_tup _ _ _ _ _ (@pa_cons _ _ _ _ _ (pv 2) (@pa_cons _ _ _ _ _ (pv 3) (@pa_nil _) star_name) star_name)) (nomark _)))))))))), ?_⟩
    have SK : ∀ {m' c : Int} {σ : L2.St} {H' : Hp} {En : Ends} {t rest : TS}, σ[0]? = some (some (.int m')) → m' ≠ c → rest En σ H' → tSeq (tIfS (tTest (tOp rEq (tVar 0) (tC (.int c)))) t tNext) rest En σ H' := fun h n q => st_ifN (pt_t (pu_eqI (pu_v h) pu_c)) (fun e => absurd (of_decide_eq_true e) n) fun _ => q
    have TK : ∀ {m' c : Int} {σ : L2.St} {H' : Hp} {En : Ends} {t rest : TS}, σ[0]? = some (some (.int m')) → m' = c → t { En with nx := rest En } σ H' → tSeq (tIfS (tTest (tOp rEq (tVar 0) (tC (.int c)))) t tNext) rest En σ H' := fun h n q => st_ifN (b := true) (pt_t (pu_cast (pu_eqI (pu_v h) pu_c) (by rw [decide_eq_true n]))) (fun _ => q) (fun e => by cases e)
    have SK1 : ∀ {m' c : Int} {σ : L2.St} {H' : Hp} {En : Ends} {t : TS}, σ[0]? = some (some (.int m')) → m' ≠ c → En.nx σ H' → tIfS (tTest (tOp rEq (tVar 0) (tC (.int c)))) t tNext En σ H' := fun h n q => st_ifN1 (pt_t (pu_eqI (pu_v h) pu_c)) (fun e => absurd (of_decide_eq_true e) n) (fun _ => q)
    have TK1 : ∀ {m' c : Int} {σ : L2.St} {H' : Hp} {En : Ends} {t : TS}, σ[0]? = some (some (.int m')) → m' = c → t En σ H' → tIfS (tTest (tOp rEq (tVar 0) (tC (.int c)))) t tNext En σ H' := fun h n q => st_ifN1 (b := true) (pt_t (pu_cast (pu_eqI (pu_v h) pu_c) (by rw [decide_eq_true n]))) (fun _ => q) (fun e => by cases e)
    have SK2 : ∀ {m' c c' : Int} {σ : L2.St} {H' : Hp} {En : Ends} {t rest : TS}, σ[0]? = some (some (.int m')) → m' ≠ c → m' ≠ c' → rest En σ H' → tSeq (tIfS (tOr (tTest (tOp rEq (tVar 0) (tC (.int c)))) (tTest (tOp rEq (tVar 0) (tC (.int c'))))) t tNext) rest En σ H' := fun h n n' q => st_ifN (b := false) (pt_or (b := false) (c := false) (pt_t (pu_cast (pu_eqI (pu_v h) pu_c) (by rw [decide_eq_false n]))) fun _ => pt_t (pu_cast (pu_eqI (pu_v h) pu_c) (by rw [decide_eq_false n']))) (fun e => by cases e) fun _ => q
    have TK2 : ∀ {m' c c' : Int} {σ : L2.St} {H' : Hp} {En : Ends} {t rest : TS}, σ[0]? = some (some (.int m')) → (decide (m' = c) || decide (m' = c')) = true → t { En with nx := rest En } σ H' → tSeq (tIfS (tOr (tTest (tOp rEq (tVar 0) (tC (.int c)))) (tTest (tOp rEq (tVar 0) (tC (.int c'))))) t tNext) rest En σ H' := fun h n q => st_ifN (pt_or (pt_t (pu_eqI (pu_v h) pu_c)) fun _ => pt_t (pu_eqI (pu_v h) pu_c)) (fun _ => q) (fun e => by rw [n] at e; cases e)
    have FM : ((n : Int).fmod 15) = ((n % 15 : Nat) : Int) := by
      rw [Int.fmod_eq_emod_of_nonneg _ (by decide)]
      rfl
    refine st_setG (R := fun v H' => ∃ q, v = .ref q ∧ H q = none ∧ H' q = some (.lst ((B16 n).map V.bl)) ∧ Same H H') (fun Q g => ?_) ?_
    · dsimp only [tOp]
      refine gv_compR (n := 15) (fun D i ys H' => ys = ((List.range i).map fun i => V.bl (decide (n % 15 = i))) ∧ H' = upd H D (.lst ys)) (pa_c pu_c pa_n) (by decide) (by decide) (fun x => KeepS.cons (KeepS.refl _) (some x)) (fun D hD => ⟨rfl, rfl⟩) (fun D i ys H' hD hi hp => ?_) _ ?_
      · obtain ⟨rfl, rfl⟩ := hp
        refine ⟨by rw [List.length_map, List.length_range]; exact Nat.lt_of_lt_of_le hi (by decide), ?_⟩
        refine Pu.gv' (pu_eqI (pu_v rfl) (pu_mod (pu_v rfl) pu_c (by decide))) ⟨upd_same, ?_, ?_⟩
        · rw [List.range_succ, List.map_append]
          congr 1
          show [V.bl _] = [V.bl _]
          congr 2
          rw [decide_eq_decide, FM]
          omega
        · rw [upd_upd]
      · rintro _ H1 ⟨D, ys, hD, rfl, rfl, rfl⟩
        have s1 : Same H (upd H D (.lst ((List.range (15 : Int).toNat).map fun i => V.bl (decide (n % 15 = i))))) := Same.upd hD
        refine gv_lst (pa_c pu_c pa_n) (by show 1 ≤ sizeLine; decide) _ ?_
        rintro _ _ ⟨p2, hp2, rfl, rfl⟩
        refine ⟨D, p2, _, _, rfl, rfl, Same.upd hp2 _ _ upd_same, upd_same, by rw [List.length_map, List.length_range]; show 16 ≤ sizeLine; decide, fun p3 hp3 => g _ _ ⟨p3, rfl, same_none (s1.trans (Same.upd hp2)) hp3, ?_, s1.trans ((Same.upd hp2).trans (Same.upd hp3))⟩⟩
        rw [upd_same, B16_eq, List.map_append, List.map_map]
        rfl
    rintro _ H1 ⟨q, rfl, hq, hq1, s1⟩
    have nq : q ≠ l := fun e => by rw [e, hl] at hq; cases hq
    refine st_setG (gv_lst pa_n (by show 0 ≤ sizeLine; decide)) ?_
    rintro _ _ ⟨p1, hp1, rfl, rfl⟩
    have s2 : Same H1 (upd H1 p1 (.lst [])) := Same.upd hp1
    have s02 := s1.trans s2
    have hp1l : p1 ≠ l := fun e => by rw [e, s1 _ _ hl] at hp1; cases hp1
    have hq2 := s2 _ _ hq1
    have hl2 := s02 _ _ hl
    have h19 : (upd H1 p1 (.lst [])) p1 = some (.lst []) := upd_same
    generalize upd H1 p1 (.lst []) = H9 at s2 s02 hq2 hl2 h19 ⊢
    have nr : ∀ {r : Addr}, H9 r = none → r ≠ l := fun {r} h e => by rw [e, hl2] at h; cases h
    have I0 : ∀ {H' : Hp} {σ : L2.St}, σ[1]? = some (some (.ref l)) → H' l = some (.lst [.int a, .int b]) → Pu (tOp (rIxL K) (tVar 1) (tC (.int 0))) σ H' (.int a) := fun h h' => pu_ixL (pu_v h) pu_c (SqL.of h') rfl
    have I1 : ∀ {H' : Hp} {σ : L2.St}, σ[1]? = some (some (.ref l)) → H' l = some (.lst [.int a, .int b]) → Pu (tOp (rIxL K) (tVar 1) (tC (.int 1))) σ H' (.int b) := fun h h' => pu_ixL (pu_v h) pu_c (SqL.of h') rfl
    have FI : ∀ {σ : L2.St} {H' : Hp} {En : Ends} {r : Addr} {xs : List V}, σ[0]? = some (some (.int (n : Int))) → σ[1]? = some (some (.ref l)) → σ[2]? = some (some (.ref q)) → σ[3]? = some (some (.ref r)) → H' r = some (.lst xs) → r ≠ l → DsAt l H' xs (fldD n a b) → Same H9 H' → En.rt = Q → tRet (tOp (fun x y H Q => ∃ hd hd' d, DAt hd H x d ∧ DAt hd' H y d ∧ okE 20 d = true ∧ Q (.bl true) H) (tCall sp_l_sorts [] E0 (tCons (tVar 0) (tCons (tVar 1) tNil))) (tTup (tCons (tVar 2) (tCons (tVar 3) tNil)))) En σ H' := fun {σ H' En r xs} h0 h1 h2 h3 hr nr ht s' er => by
      refine st_retG (R := fun v H' => v = .bl true ∧ Same H9 H') (fun Q g => ?_) ?_
      · dsimp only [tOp]
        refine gv_call (sp := sp_l_sorts) (E := E0) (R := fun v H2 => Same H' H2 ∧ DAt l H2 v (srtD n a b)) (pa_c (pu_v h0) (pa_c (pu_v h1) pa_n)) (fun Q g => ⟨n, l, a, b, rfl, hn, s' _ _ hl2, fun v H2 s d => g _ _ ⟨s, d⟩⟩) _ ?_
        rintro v H2 ⟨s3, hv⟩
        refine gv_tup (pa_c (pu_v h2) (pa_c (pu_v h3) pa_n)) (by show 2 ≤ sizeLine; decide) _ ?_
        rintro _ _ ⟨p, hp, rfl, rfl⟩
        have s4 : Same H2 (upd H2 p (.tup [.ref q, .ref r])) := Same.upd hp
        exact ⟨l, l, srtD n a b, hv.same s4, .tup upd_same (.cons (.lst (s4 _ _ (s3 _ _ (s' _ _ hq2))) nq (ds_bls _)) (.cons (.lst (s4 _ _ (s3 _ _ hr)) nr (ht.same (s3.trans s4))) .nil)), srt_ok n a b, g _ _ ⟨rfl, s'.trans (s3.trans s4)⟩⟩
      · rintro _ H2 ⟨rfl, s3⟩
        rw [er]
        exact k _ (s02.trans s3)
    have hc : n = 0 ∨ n = 1 ∨ n = 2 ∨ n = 3 ∨ n = 4 ∨ n = 5 ∨ n = 6 ∨ n = 7 ∨ n = 8 ∨ n = 9 ∨ n = 10 ∨ n = 11 ∨ n = 12 ∨ n = 13 ∨ n = 14 ∨ n = 15 ∨ n = 16 := by omega
    rcases hc with rfl | rfl | rfl | rfl | rfl | rfl | rfl | rfl | rfl | rfl | rfl | rfl | rfl | rfl | rfl | rfl | rfl
    · refine SK rfl (by decide) (SK2 rfl (by decide) (by decide) (SK rfl (by decide) (SK2 rfl (by decide) (by decide) (?_))))
      exact FI rfl rfl rfl rfl h19 hp1l .nil Same.rfl' rfl
    · refine SK rfl (by decide) (SK2 rfl (by decide) (by decide) (SK rfl (by decide) (SK2 rfl (by decide) (by decide) (?_))))
      exact FI rfl rfl rfl rfl h19 hp1l .nil Same.rfl' rfl
    · refine TK rfl rfl ?_
      refine st_setG1 (gv_lst (pa_c (I0 rfl hl2) (pa_c (I1 rfl hl2) pa_n)) (by show 2 ≤ sizeLine; decide)) ?_
      rintro _ _ ⟨r, hr', rfl, rfl⟩
      refine SK2 rfl (by decide) (by decide) (SK rfl (by decide) (SK2 rfl (by decide) (by decide) (?_)))
      exact FI rfl rfl rfl rfl upd_same (nr hr') (.cons (.int a) (.cons (.int b) .nil)) (Same.upd hr') rfl
    · refine SK rfl (by decide) (SK2 rfl (by decide) (by decide) (SK rfl (by decide) (SK2 rfl (by decide) (by decide) (?_))))
      exact FI rfl rfl rfl rfl h19 hp1l .nil Same.rfl' rfl
    · refine SK rfl (by decide) (TK2 rfl (by decide) ?_)
      refine st_setG1 (gv_lst (pa_c (I0 rfl hl2) pa_n) (by show 1 ≤ sizeLine; decide)) ?_
      rintro _ _ ⟨r, hr', rfl, rfl⟩
      refine SK rfl (by decide) (SK2 rfl (by decide) (by decide) (?_))
      exact FI rfl rfl rfl rfl upd_same (nr hr') (.cons (.int a) .nil) (Same.upd hr') rfl
    · refine SK rfl (by decide) (SK2 rfl (by decide) (by decide) (SK rfl (by decide) (SK2 rfl (by decide) (by decide) (?_))))
      exact FI rfl rfl rfl rfl h19 hp1l .nil Same.rfl' rfl
    · refine SK rfl (by decide) (SK2 rfl (by decide) (by decide) (TK rfl rfl ?_))
      refine st_setG1 (R := fun v H' => ∃ r p, v = .ref r ∧ H9 r = none ∧ Same H9 H' ∧ H' r = some (.lst [.ref p]) ∧ H' p = some (.tup [.int a, .int b, .int 1])) (fun Q g => ?_) ?_
      · dsimp only [tLst, tCons, tNil]
        refine gv_tup (pa_c (I0 rfl hl2) (pa_c (I1 rfl hl2) (pa_c pu_c pa_n))) (by show 3 ≤ sizeLine; decide) _ ?_
        rintro _ _ ⟨p, hp, rfl, rfl⟩
        exact ⟨by show 1 ≤ sizeLine; decide, fun r hr' => g _ _ ⟨r, p, rfl, same_none (Same.upd hp) hr', (Same.upd hp).trans (Same.upd hr'), upd_same, Same.upd hr' _ _ upd_same⟩⟩
      rintro _ H10 ⟨r, p, rfl, hr', s10, hr10, hp10⟩
      refine SK2 rfl (by decide) (by decide) (?_)
      exact FI rfl rfl rfl rfl hr10 (nr hr') (.cons (.tup hp10 (.cons (.int a) (.cons (.int b) (.cons (.int 1) .nil)))) .nil) s10 rfl
    · refine SK rfl (by decide) (SK2 rfl (by decide) (by decide) (SK rfl (by decide) (SK2 rfl (by decide) (by decide) (?_))))
      exact FI rfl rfl rfl rfl h19 hp1l .nil Same.rfl' rfl
    · refine SK rfl (by decide) (SK2 rfl (by decide) (by decide) (SK rfl (by decide) (TK2 rfl (by decide) ?_)))
      refine st_setG1 (R := fun v H' => ∃ r, v = .ref r ∧ H9 r = none ∧ Same H9 H' ∧ H' r = some (.lst [.str (Str.ofString "a")])) (fun Q g => ?_) ?_
      · dsimp only [tLst, tCons, tNil, tOp, tC]
        refine ⟨by show 2 ≤ sizeLine; decide, fun r2 hr2 => ?_⟩
        refine pu_v rfl _ ?_
        refine ⟨8, 8, rfl, rfl, ?_⟩
        refine ⟨r2, _, _, .str (Str.ofString "a"), rfl, rfl, SqL.of upd_same, rfl, by show 1 ≤ sizeLine; decide, fun r hr' => g _ _ ⟨r, rfl, same_none (Same.upd hr2) hr', (Same.upd hr2).trans (Same.upd hr'), upd_same⟩⟩
      rintro _ H10 ⟨r, rfl, hr', s10, hr10⟩
      exact FI rfl rfl rfl rfl hr10 (nr hr') (.cons (.str _ (str1 _ (by decide +kernel))) .nil) s10 rfl
    · refine SK rfl (by decide) (SK2 rfl (by decide) (by decide) (SK rfl (by decide) (TK2 rfl (by decide) ?_)))
      refine st_setG1 (R := fun v H' => ∃ r, v = .ref r ∧ H9 r = none ∧ Same H9 H' ∧ H' r = some (.lst [.str (Str.ofString "b")])) (fun Q g => ?_) ?_
      · dsimp only [tLst, tCons, tNil, tOp, tC]
        refine ⟨by show 2 ≤ sizeLine; decide, fun r2 hr2 => ?_⟩
        refine pu_v rfl _ ?_
        refine ⟨9, 8, rfl, rfl, ?_⟩
        refine ⟨r2, _, _, .str (Str.ofString "b"), rfl, rfl, SqL.of upd_same, rfl, by show 1 ≤ sizeLine; decide, fun r hr' => g _ _ ⟨r, rfl, same_none (Same.upd hr2) hr', (Same.upd hr2).trans (Same.upd hr'), upd_same⟩⟩
      rintro _ H10 ⟨r, rfl, hr', s10, hr10⟩
      exact FI rfl rfl rfl rfl hr10 (nr hr') (.cons (.str _ (str1 _ (by decide +kernel))) .nil) s10 rfl
    · refine SK rfl (by decide) (TK2 rfl (by decide) ?_)
      refine st_setG1 (gv_lst (pa_c (I0 rfl hl2) pa_n) (by show 1 ≤ sizeLine; decide)) ?_
      rintro _ _ ⟨r, hr', rfl, rfl⟩
      refine SK rfl (by decide) (SK2 rfl (by decide) (by decide) (?_))
      exact FI rfl rfl rfl rfl upd_same (nr hr') (.cons (.int a) .nil) (Same.upd hr') rfl
    · refine SK rfl (by decide) (SK2 rfl (by decide) (by decide) (SK rfl (by decide) (SK2 rfl (by decide) (by decide) (?_))))
      exact FI rfl rfl rfl rfl h19 hp1l .nil Same.rfl' rfl
    · refine SK rfl (by decide) (SK2 rfl (by decide) (by decide) (SK rfl (by decide) (SK2 rfl (by decide) (by decide) (?_))))
      exact FI rfl rfl rfl rfl h19 hp1l .nil Same.rfl' rfl
    · refine SK rfl (by decide) (SK2 rfl (by decide) (by decide) (SK rfl (by decide) (SK2 rfl (by decide) (by decide) (?_))))
      exact FI rfl rfl rfl rfl h19 hp1l .nil Same.rfl' rfl
    · refine SK rfl (by decide) (SK2 rfl (by decide) (by decide) (SK rfl (by decide) (SK2 rfl (by decide) (by decide) (?_))))
      exact FI rfl rfl rfl rfl h19 hp1l .nil Same.rfl' rfl
    · refine SK rfl (by decide) (SK2 rfl (by decide) (by decide) (SK rfl (by decide) (SK2 rfl (by decide) (by decide) (?_))))
      exact FI rfl rfl rfl rfl h19 hp1l .nil Same.rfl' rfl
    · refine SK rfl (by decide) (SK2 rfl (by decide) (by decide) (SK rfl (by decide) (SK2 rfl (by decide) (by decide) (?_))))
      exact FI rfl rfl rfl rfl h19 hp1l .nil Same.rfl' rfl
def sp_law (K : PySem.W.Frag) : Sp := fun vs H Q _ => ∃ (a : Addr) (ns : List Int), vs = [.ref a] ∧ SqL K H a (ns.map V.int) ∧ ns.length ≤ 63 ∧ ∀ H', Q (.bl true) H'
theorem gv_told {sp : Sp} {σ : L2.St} {H : Hp} {te tb : TE} {hd : Addr} {v : V} {d : D} {m : Nat} {b : Bool} (hsp : ∀ (H' : Hp) (Q : VK), DAt hd H' v d → (∀ H'', Same H' H'' → Q (.bl (okN m d)) H'') → sp [v] H' Q E0) (hv : Pu te σ H v) (hd' : DAt hd H v d) (hb : ∀ H', Same H H' → Pu tb σ H' (.bl b)) (e : b = okN m d) :
    Gv (tCall sp_l_told [] E0 (tCons (tCall sp [] E0 (tCons te tNil)) (tCons tb tNil))) σ H (fun v H' => v = .bl true ∧ Same H H') := fun Q f => by
  dsimp only [tCall, tCons, tNil]
  refine hv _ (hsp _ _ hd' fun H2 s => hb _ s _ ⟨okN m d, b, rfl, ?_⟩)
  rw [e, beq_self_eq_true]
  exact f _ _ ⟨rfl, s⟩
/-- a thing and what is due -/
theorem gv_spoilt {σ : L2.St} {H : Hp} {ta : TA} {hd sc : Addr} {v : V} {ns : List Int} (hh : HandAt H hd sc) (hv : TupT H v ns) (h23 : ns.length = 2 ∨ ns.length = 3) (ok : okI ns.length ns = true) (ha : PuA ta σ H [.ref hd, v]) :
    Gv (tCall sp_l_spoilt [] E0 ta) σ H (fun r H' => ∃ p th d, r = .ref p ∧ H' p = some (.tup [th, .bl (okN ns.length d)]) ∧ DAt hd H' th d ∧ HandAt H' hd sc ∧ SameB hd H H') :=
  gv_call ha fun Q q => ⟨hd, sc, v, ns, rfl, hh, hv, h23, ok, fun p th b d H' h1 h2 h3 h4 h5 => q _ _ ⟨p, th, d, rfl, by rw [← h3]; exact h1, h2, h4, h5⟩⟩
theorem tupT_at {H : Hp} {hd : Addr} {v : V} {ns : List Int} (h : TupT H v ns) : DAt hd H v (.tup (ns.map D.int)) := by
  obtain ⟨a, rfl, ha⟩ := h
  exact .tup ha (ds_ints ns)
theorem tupT_but {H H' : Hp} {hd : Addr} {v : V} {ns : List Int} {ys : List V} (hy : H hd = some (.lst ys)) (h : TupT H v ns) (s : SameB hd H H') : TupT H' v ns := by
  obtain ⟨a, rfl, ha⟩ := h
  exact ⟨a, rfl, s _ _ ha fun e => by rw [e, hy] at ha; cases ha⟩
theorem sc_law : FnScope ["_law_script", "_law_hand_here", "_law_k", "_law_good", "_law_thing", "_law_due", "_law_some"] ["_law_script"] (defScope s_law) := ⟨rfl, rfl, rfl, by decide +kernel, rfl, by decide +kernel, by decide +kernel⟩
theorem ok_law (T : Txt K mg t) : FnOk P w K mg base CX0 6 t.f_law t.d_law ["_law_script"] (sp_law K) := by
  refine T.law.F.ok (k := 5) sc_law (fun vs H Q E h => ?_) (fun cdv A outer s H vs Q E hr h => ?_)
  · obtain ⟨a, ns, rfl, _⟩ := h
    rfl
  · obtain ⟨sa, ns, rfl, hS, hlen, k⟩ := h
    refine ⟨_, (@pss_cons _ _ _ _ _ (@ps_set _ _ 1 _ _ _ _ sc_law.nd rfl (Or.inl rfl) (@pe_fn _ _ _ _ _ _ _ _ _ _ _ _ _ _ T.l_hand (ok_l_hand T) hr (by decide) (@pa_cons _ _ _ _ _ (pv 0) (@pa_nil _) star_name) (by rfl) (by decide) (by rfl) (by rfl)) (by rfl) (by first | exact .inl rfl | exact .inr rfl | assumption)) (@pss_cons _ _ _ _ _ (@ps_for _ _ _ _ _ _ _ _ PassesOwn.never rfl (@pi_range1 _ _ _ _ _ _ rfl T.b_range (@pa_cons _ _ _ _ _ (@pe_op _ _ _ _ _ _ _ _ op_add (@pe_int _ _ _ _) (@pe_fn _ _ _ _ _ _ _ _ _ _ _ _ _ _ T.l_draw (ok_l_draw T) hr (by decide) (@pa_cons _ _ _ _ _ (pv 1) (@pa_cons _ _ _ _ _ (@pe_int _ _ _ _) (@pa_nil _) star_con) star_name) (by rfl) (by decide) (by rfl) (by rfl))) (@pa_nil _) star_bin) (by rfl)) (@pg_name _ _ 2 _ sc_law.nd rfl (Or.inl rfl) (by first | exact .inl rfl | exact .inr rfl | assumption)) (@pss_cons _ _ _ _ _ (@ps_set _ _ 3 _ _ _ _ sc_law.nd rfl (Or.inl rfl) (@pe_fn _ _ _ _ _ _ _ _ _ _ _ _ _ _ T.l_lowest (ok_l_lowest T) hr (by decide) (@pa_cons _ _ _ _ _ (@pe_fn _ _ _ _ _ _ _ _ _ _ _ _ _ _ T.l_number (ok_l_number T) hr (by decide) (@pa_cons _ _ _ _ _ (pv 1) (@pa_nil _) star_name) (by rfl) (by decide) (by rfl) (by rfl)) (@pa_cons _ _ _ _ _ (@pe_op _ _ _ _ _ _ _ _ op_add (@pe_int _ _ _ _) (@pe_fn _ _ _ _ _ _ _ _ _ _ _ _ _ _ T.l_draw (ok_l_draw T) hr (by decide) (@pa_cons _ _ _ _ _ (pv 1) (@pa_cons _ _ _ _ _ (@pe_ix _ _ _ _ _ _ _ ix_list (@pe_lst _ _ _ _ (@pa_cons _ _ _ _ _ (@pe_int _ _ _ _) (@pa_cons _ _ _ _ _ (@pe_int _ _ _ _) (@pa_cons _ _ _ _ _ (@pe_op _ _ _ _ _ _ _ _ op_pow (@pe_int _ _ _ _) (@pe_int _ _ _ _)) (@pa_nil _) star_bin) star_con) star_con)) (@pe_fn _ _ _ _ _ _ _ _ _ _ _ _ _ _ T.l_draw (ok_l_draw T) hr (by decide) (@pa_cons _ _ _ _ _ (pv 1) (@pa_cons _ _ _ _ _ (@pe_int _ _ _ _) (@pa_nil _) star_con) star_name) (by rfl) (by decide) (by rfl) (by rfl)) (fun _ _ => rfl)) (@pa_nil _) star_sub) star_name) (by rfl) (by decide) (by rfl) (by rfl))) (@pa_nil _) star_bin) star_call) (by rfl) (by decide) (by rfl) (by rfl)) (by rfl) (by first | exact .inl rfl | exact .inr rfl | assumption)) (@pss_cons _ _ _ _ _ (@ps_asg _ _ _ _ _ _ (@pe_fn _ _ _ _ _ _ _ _ _ _ _ _ _ _ T.l_spoilt (ok_l_spoilt T) hr (by decide) (@pa_cons _ _ _ _ _ (pv 1) (@pa_cons _ _ _ _ _ (pv 3) (@pa_nil _) star_name) star_name) (by rfl) (by decide) (by rfl) (by rfl)) (@pg_tup _ _ _ _ _ _ rfl (@pgs_cons _ _ _ _ _ (@pg_name _ _ 4 _ sc_law.nd rfl (Or.inl rfl) (by first | exact .inl rfl | exact .inr rfl | assumption)) (@pgs_cons _ _ _ _ _ (@pg_name _ _ 5 _ sc_law.nd rfl (Or.inl rfl) (by first | exact .inl rfl | exact .inr rfl | assumption)) (@pgs_nil _) (by rfl)) (by rfl)) (by rfl) (by rfl)) (by rfl) (by rfl) (by rfl)) (@pss_cons _ _ _ _ _ (@ps_if _ _ _ _ _ _ _ _ (PW.pt (@pw_or _ _ _ _ _ _ _ (@pt_not _ _ _ _ (@pt_val _ _ _ (@pe_fn _ _ _ _ _ _ _ _ _ _ _ _ _ _ T.l_told (ok_l_told T) hr (by decide) (@pa_cons _ _ _ _ _ (@pe_fn _ _ _ _ _ _ _ _ _ _ _ _ _ _ T.is_fraction (ok_is_fraction T) hr (by decide) (@pa_cons _ _ _ _ _ (pv 3) (@pa_nil _) star_name) (by rfl) (by decide) (by rfl) (by rfl)) (@pa_cons _ _ _ _ _ (@pe_bl _ _ _ _) (@pa_nil _) star_con) star_call) (by rfl) (by decide) (by rfl) (by rfl)) (by intro _; rfl))) (@pw_or1 _ _ _ _ (@pt_not _ _ _ _ (@pt_val _ _ _ (@pe_fn _ _ _ _ _ _ _ _ _ _ _ _ _ _ T.l_told (ok_l_told T) hr (by decide) (@pa_cons _ _ _ _ _ (@pe_fn _ _ _ _ _ _ _ _ _ _ _ _ _ _ T.is_fraction (ok_is_fraction T) hr (by decide) (@pa_cons _ _ _ _ _ (pv 4) (@pa_nil _) star_name) (by rfl) (by decide) (by rfl) (by rfl)) (@pa_cons _ _ _ _ _ (pv 5) (@pa_nil _) star_name) star_call) (by rfl) (by decide) (by rfl) (by rfl)) (by intro _; rfl)))))) (@pss_one _ _ _ (@ps_ret _ _ _ _ (@pe_bl _ _ _ _))) (@pss_nil _)) (@pss_cons _ _ _ _ _ (@ps_set _ _ 3 _ _ _ _ sc_law.nd rfl (Or.inl rfl) (@pe_fn _ _ _ _ _ _ _ _ _ _ _ _ _ _ T.l_any (ok_l_any T) hr (by decide) (@pa_cons _ _ _ _ _ (pv 1) (@pa_nil _) star_name) (by rfl) (by decide) (by rfl) (by rfl)) (by rfl) (by first | exact .inl rfl | exact .inr rfl | assumption)) (@pss_cons _ _ _ _ _ (@ps_asg _ _ _ _ _ _ (@pe_fn _ _ _ _ _ _ _ _ _ _ _ _ _ _ T.l_spoilt (ok_l_spoilt T) hr (by decide) (@pa_cons _ _ _ _ _ (pv 1) (@pa_cons _ _ _ _ _ (pv 3) (@pa_nil _) star_name) star_name) (by rfl) (by decide) (by rfl) (by rfl)) (@pg_tup _ _ _ _ _ _ rfl (@pgs_cons _ _ _ _ _ (@pg_name _ _ 4 _ sc_law.nd rfl (Or.inl rfl) (by first | exact .inl rfl | exact .inr rfl | assumption)) (@pgs_cons _ _ _ _ _ (@pg_name _ _ 5 _ sc_law.nd rfl (Or.inl rfl) (by first | exact .inl rfl | exact .inr rfl | assumption)) (@pgs_nil _) (by rfl)) (by rfl)) (by rfl) (by rfl)) (by rfl) (by rfl) (by rfl)) (@pss_one _ _ _ (@ps_if _ _ _ _ _ _ _ _ (PW.pt (@pw_or _ _ _ _ _ _ _ (@pt_not _ _ _ _ (@pt_val _ _ _ (@pe_fn _ _ _ _ _ _ _ _ _ _ _ _ _ _ T.l_told (ok_l_told T) hr (by decide) (@pa_cons _ _ _ _ _ (@pe_fn _ _ _ _ _ _ _ _ _ _ _ _ _ _ T.is_point (ok_is_point T) hr (by decide) (@pa_cons _ _ _ _ _ (pv 3) (@pa_nil _) star_name) (by rfl) (by decide) (by rfl) (by rfl)) (@pa_cons _ _ _ _ _ (@pe_bl _ _ _ _) (@pa_nil _) star_con) star_call) (by rfl) (by decide) (by rfl) (by rfl)) (by intro _; rfl))) (@pw_or1 _ _ _ _ (@pt_not _ _ _ _ (@pt_val _ _ _ (@pe_fn _ _ _ _ _ _ _ _ _ _ _ _ _ _ T.l_told (ok_l_told T) hr (by decide) (@pa_cons _ _ _ _ _ (@pe_fn _ _ _ _ _ _ _ _ _ _ _ _ _ _ T.is_point (ok_is_point T) hr (by decide) (@pa_cons _ _ _ _ _ (pv 4) (@pa_nil _) star_name) (by rfl) (by decide) (by rfl) (by rfl)) (@pa_cons _ _ _ _ _ (pv 5) (@pa_nil _) star_name) star_call) (by rfl) (by decide) (by rfl) (by rfl)) (by intro _; rfl)))))) (@pss_one _ _ _ (@ps_ret _ _ _ _ (@pe_bl _ _ _ _))) (@pss_nil _)))))))) (by intro _; rfl)) (@pss_cons _ _ _ _ _ (@ps_set _ _ 6 _ _ _ _ sc_law.nd rfl (Or.inr rfl) (@pe_lst _ _ _ _ (@pa_cons _ _ _ _ _ (@pe_fn _ _ _ _ _ _ _ _ _ _ _ _ _ _ T.l_number (ok_l_number T) hr (by decide) (@pa_cons _ _ _ _ _ (pv 1) (@pa_nil _) star_name) (by rfl) (by decide) (by rfl) (by rfl)) (@pa_cons _ _ _ _ _ (@pe_fn _ _ _ _ _ _ _ _ _ _ _ _ _ _ T.l_number (ok_l_number T) hr (by decide) (@pa_cons _ _ _ _ _ (pv 1) (@pa_nil _) star_name) (by rfl) (by decide) (by rfl) (by rfl)) (@pa_nil _) star_call) star_call)) (by rfl) (by first | exact .inl rfl | exact .inr rfl | assumption)) (@pss_one _ _ _ (@ps_ret _ _ _ _ (@pe_callB _ _ _ _ _ _ _ _ _ (call_all rfl) (by rfl) T.b_all PyProof.Rows.boot_all (@pa_cons _ _ _ _ _ (@pe_lcompC _ "_law_which" "_law_some" _ _ _ _ _ _ _ _ 6 rfl (@pi_range1 _ _ _ _ _ _ rfl T.b_range (@pa_cons _ _ _ _ _ (@pe_int _ _ _ _) (@pa_nil _) star_con) (by rfl)) (fun _ _ _ _ => pg_name (i := 0) (show (["_law_which", "_law_some"] : List Str).Nodup from by decide +kernel) rfl (Or.inl rfl) (.inr rfl)) (fun _ _ _ _ => (@pe_fn _ _ _ _ _ _ _ _ _ _ _ _ _ _ T.l_apart (ok_l_apart T) hr (by decide) (@pa_cons _ _ _ _ _ (pv 0) (@pa_cons _ _ _ _ _ (pv 1) (@pa_nil _) star_name) star_name) (by rfl) (by decide) (by rfl) (by rfl))) rfl rfl (by decide +kernel) (by decide +kernel) rfl rfl rfl rfl rfl (by intro _; rfl)) (@pa_nil _) star_lc) (by decide) (by decide) (by rfl) (by rfl))))))), ?_⟩
    refine st_setG (gv_call (R := fun v H' => ∃ hd sc, v = .ref hd ∧ HandAt H' hd sc) (pa_c (pu_v rfl) pa_n) fun Q f => ⟨sa, ns, rfl, hS, fun hd sc H' s n hh => f _ _ ⟨hd, sc, rfl, hh⟩⟩) ?_
    rintro _ H1 ⟨hd, sc, rfl, hh1⟩
    have bigB : Bd 9000 (10 ^ 60 + 1 : Int) := by unfold Bd; decide +kernel
    have P60 : ∀ {σ : L2.St} {H' : Hp}, Pu (tOp (rI CPow fun i j => .int (i ^ j.toNat)) (tC (.int 10)) (tC (.int 60))) σ H' (.int (10 ^ 60)) := pu_pow pu_c pu_c ⟨by decide, by decide, by decide⟩
    have bdm : ∀ {x : Int}, 0 ≤ x → x ≤ 10 ^ 60 + 1 → Bd 9000 x := fun {x} h0 h1 => by
      have h2 : (10 : Int) ^ 60 + 1 < 2 ^ 9000 := by decide +kernel
      have h3 : ((2 ^ 9000 : Nat) : Int) = 2 ^ 9000 := by decide +kernel
      unfold Bd
      omega
    refine st_rangeG (ga_cons (R1 := fun v H' => (∃ n : Int, v = .int n ∧ 0 ≤ n ∧ n < 10) ∧ HandAt H' hd sc) (fun Q f => gv_draw hh1 (pa_c (pu_v rfl) (pa_c pu_c pa_n)) (by decide) Bd.small _ ?_) fun _ _ _ => ga_nil) ?_
    · rintro _ H8 ⟨⟨n, rfl, n0, n1⟩, hh8, s8⟩
      exact ⟨1, n, rfl, rfl, f _ _ ⟨⟨_, rfl, by omega, by omega⟩, hh8⟩⟩
    rintro vs H9 ⟨x, H8, r, rfl, ⟨⟨n, rfl, n0, n1⟩, hh8⟩, rfl, rfl⟩
    refine ⟨n, rfl, by omega, by omega, fun i σ H' => HandAt H' hd sc ∧ ∃ c d e f g : Option V, σ = [some (.ref sa), some (.ref hd), c, d, e, f, g], ⟨hh8, _, _, _, _, _, rfl⟩, ?_, ?_⟩
    · rintro i σ H' hi ⟨hh, c, d, e, f, g, rfl⟩
      -- a fraction
      refine st_setG (R := fun v H2 => ∃ ns, TupT H2 v ns ∧ ns.length = 2 ∧ okI ns.length ns = true ∧ HandAt H2 hd sc) (gv_callA (RA := fun vs H2 => ∃ a b : Int, vs = [.int a, .int b] ∧ 0 < b ∧ Bd 9000 b ∧ HandAt H2 hd sc) (fun Q q => ?_) (fun vs H2 z Q q => ?_)) ?_
      · refine gv_number hh (pa_c (pu_v rfl) pa_n) _ ?_
        rintro _ H2 ⟨⟨a, rfl, _⟩, hh2, _⟩
        dsimp only [tCons, tOp, tC]
        refine gv_callA (RA := fun vs H' => ∃ m : Int, vs = [.ref hd, .int m] ∧ 0 < m ∧ m ≤ 10 ^ 60 ∧ HandAt H' hd sc) (R := fun v H' => ∃ n : Int, v = .int n ∧ 0 ≤ n ∧ n < 10 ^ 60 ∧ HandAt H' hd sc) (fun Q q => pu_v rfl _ (gv_pick (ys := [2, 1000, 10 ^ 60]) (m := 10 ^ 60) hh2 (pa_c pu_c (pa_c pu_c (pa_c P60 pa_n))) (by decide) (by decide) (by decide) (fun _ => pa_c (pu_v rfl) (pa_c pu_c pa_n)) _ ?_)) (fun vs H3 z Q q => ?_) _ ?_
        · rintro _ H3 ⟨⟨m, rfl, m0, m1⟩, hh3, s3⟩
          exact q _ _ ⟨m, rfl, m0, m1, hh3⟩
        · obtain ⟨m, rfl, m0, m1, hh3⟩ := z
          exact ⟨hd, sc, m, rfl, hh3, m0, bdm (by omega) (by omega), fun n H' z0 z1 a s => q _ _ ⟨n, rfl, z0, by omega, a⟩⟩
        · rintro _ H3 ⟨n, rfl, n0, n1, hh3⟩
          exact ⟨1, n, rfl, rfl, q _ _ ⟨a, 1 + n, rfl, by omega, bdm (by omega) (by omega), hh3⟩⟩
      · obtain ⟨a, b, rfl, b0, bb, hh2⟩ := z
        refine ⟨a, b, rfl, by omega, bb, fun v H3 s t => q _ _ ⟨_, t, rfl, ?_, hh2.same s⟩⟩
        obtain ⟨l1, l2, _⟩ := low_has (n := a) (m := b) (by omega)
        show okI 2 _ = true
        rw [okI2, l2, decide_eq_true (show (1 : Int) ≤ _ by omega)]
        rfl
      rintro good H2 ⟨ns2, tg, ln, ok, hh2⟩
      obtain ⟨ys2, hys2⟩ := hh2.ls
      refine gv_spoilt hh2 tg (.inl ln) ok (pa_c (pu_v rfl) (pa_c (pu_v rfl) pa_n)) _ ?_
      rintro _ H3 ⟨p, th, d1, rfl, hp, hth, hh3, s3⟩
      refine ⟨p, _, rfl, SqT.of hp, rfl, th, _, rfl, _, [], rfl, rfl, ?_⟩
      have tg3 := tupT_but hys2 tg s3
      have e1 : true = okN 2 (.tup (ns2.map D.int)) := by rw [okN_ints, ← ln, ok]
      refine st_ifNG (R := fun b H7 => b = false ∧ Same H3 H7) (gt_or (R := fun b H7 => b = false ∧ Same H3 H7) (gn_tru (gv_told (sp := sp_is_fraction) (fun H' Q h q => ⟨hd, _, _, rfl, h, q⟩) (pu_v rfl) (tupT_at tg3) (fun _ _ => pu_c) e1)) (fun H7 r => (gn_tru (gv_told (sp := sp_is_fraction) (fun H' Q h q => ⟨hd, _, _, rfl, h, q⟩) (pu_v rfl) (hth.same r.2) (fun _ _ => pu_v rfl) (by rw [ln]))).imp fun b H' z => ⟨z.1, r.2.trans z.2⟩) fun _ r => by cases r.1) (fun _ r => by cases r.1) ?_
      rintro H4 ⟨_, s4⟩
      have hh4 := hh3.same s4
      -- a point
      refine st_setG (R := fun v H2 => ∃ ns, TupT H2 v ns ∧ ns.length = 3 ∧ okI ns.length ns = true ∧ HandAt H2 hd sc) (gv_call (pa_c (pu_v rfl) pa_n) fun Q q => ⟨hd, sc, rfl, hh4, fun v ns H' h1 h2 h3 h4 _ => q _ _ ⟨ns, h1, h2, by rw [h2]; exact h3, h4⟩⟩) ?_
      rintro good5 H5 ⟨ns5, tg5, ln5, ok5, hh5⟩
      obtain ⟨ys5, hys5⟩ := hh5.ls
      refine gv_spoilt hh5 tg5 (.inr ln5) ok5 (pa_c (pu_v rfl) (pa_c (pu_v rfl) pa_n)) _ ?_
      rintro _ H6 ⟨p6, th6, d6, rfl, hp6, hth6, hh6, s6⟩
      refine ⟨p6, _, rfl, SqT.of hp6, rfl, th6, _, rfl, _, [], rfl, rfl, ?_⟩
      have tg6 := tupT_but hys5 tg5 s6
      have e6 : true = okN 3 (.tup (ns5.map D.int)) := by rw [okN_ints, ← ln5, ok5]
      refine st_ifNG1 (R := fun b H7 => b = false ∧ Same H6 H7) (gt_or (R := fun b H7 => b = false ∧ Same H6 H7) (gn_tru (gv_told (sp := sp_is_point) (fun H' Q h q => ⟨hd, _, _, rfl, h, q⟩) (pu_v rfl) (tupT_at tg6) (fun _ _ => pu_c) e6)) (fun H7 r => (gn_tru (gv_told (sp := sp_is_point) (fun H' Q h q => ⟨hd, _, _, rfl, h, q⟩) (pu_v rfl) (hth6.same r.2) (fun _ _ => pu_v rfl) (by rw [ln5]))).imp fun b H' z => ⟨z.1, r.2.trans z.2⟩) fun _ r => by cases r.1) (fun _ r => by cases r.1) ?_
      rintro H7 ⟨_, s7⟩
      exact ⟨hh6.same s7, _, _, _, _, _, rfl⟩
    · rintro σ H' ⟨hh, c, d, e, f, g, rfl⟩
      refine st_setG (R := fun v H2 => ∃ (l : Addr) (a b : Int), v = .ref l ∧ H2 l = some (.lst [.int a, .int b])) (gv_lstA (RA := fun vs H2 => ∃ a b : Int, vs = [.int a, .int b]) (fun Q q => ?_) ?_) ?_
      · refine gv_number hh (pa_c (pu_v rfl) pa_n) _ ?_
        rintro _ H2 ⟨⟨a, rfl, _⟩, hh2, _⟩
        refine gv_number hh2 (pa_c (pu_v rfl) pa_n) _ ?_
        rintro _ H3 ⟨⟨b, rfl, _⟩, hh3, _⟩
        exact q _ _ ⟨a, b, rfl⟩
      · rintro _ H2 ⟨a, b, rfl⟩
        exact ⟨by show 2 ≤ sizeLine; decide, fun p hp => ⟨p, a, b, rfl, upd_same⟩⟩
      rintro _ H2 ⟨l, a, b, rfl, hl⟩
      refine st_retG (gv_all (List.replicate 17 true) (gv_compR (n := 17) (fun D i ys H' => ys = List.replicate i (V.bl true) ∧ H' D = some (.lst ys) ∧ Same H2 H') (pa_c pu_c pa_n) (by decide) (by decide) (fun x => KeepS.cons (KeepS.refl _) (some x)) (fun D hD => ⟨rfl, upd_same, Same.upd hD⟩) (fun D i ys H' hD hi hp => ?_)) ?_) ?_
      · obtain ⟨rfl, hD', s'⟩ := hp
        refine ⟨by rw [List.length_replicate]; exact Nat.lt_of_lt_of_le hi (by decide), ?_⟩
        refine gv_call (pa_c (pu_v rfl) (pa_c (pu_v rfl) pa_n)) fun Q q => ⟨i, l, a, b, by rw [Int.zero_add]; rfl, hi, s' _ _ hl, fun H4 s4 => q _ _ ⟨s4 _ _ hD', ?_, upd_same, same_updNew (s'.trans s4) hD⟩⟩
        rw [List.replicate_succ']
      · rintro _ H3 ⟨D, ys, hD, rfl, rfl, hD', s'⟩
        exact ⟨D, rfl, SqL.of (by rw [hD', List.map_replicate]; rfl)⟩
      · rintro _ H3 ⟨_, rfl⟩
        exact k _
end
theorem all_mk {l : PySem.W.OpenLaw} {w : World} {K : PySem.W.Frag} {h : Heap} {mg : Str → Option Value} {fa : Addr} (X : K.In h) (G : h.Ns mainGlobals mg) (hfa : mg "law" = some (.ref fa))
    {g0 : Addr} (u0 : PySem.W.nsIn K mainGlobals "PlyError" = some (some (.ref g0)))
    {g1 : Addr} (u1 : PySem.W.nsIn K mainGlobals "NoNumber" = some (some (.ref g1)))
    {g2 : Addr} (u2 : PySem.W.nsIn K mainGlobals "NoPoint" = some (some (.ref g2)))
    {g3 : Addr} (u3 : PySem.W.nsIn K mainGlobals "BadPlan" = some (some (.ref g3)))
    {g4 : Addr} (u4 : PySem.W.nsIn K mainGlobals "Endless" = some (some (.ref g4)))
    {g5 : Addr} (u5 : PySem.W.nsIn K mainGlobals "NoName" = some (some (.ref g5)))
    {g6 : Addr} (u6 : PySem.W.nsIn K mainGlobals "BadWish" = some (some (.ref g6)))
    {g7 : Addr} (u7 : PySem.W.nsIn K mainGlobals "NoSize" = some (some (.ref g7)))
    {g8 : Addr} (u8 : PySem.W.nsIn K mainGlobals "NoText" = some (some (.ref g8)))
    {g9 : Addr} (u9 : PySem.W.nsIn K mainGlobals "NoRow" = some (some (.ref g9)))
    {g10 : Addr} (u10 : PySem.W.nsIn K mainGlobals "BadLayer" = some (some (.ref g10)))
    {g11 : Addr} (u11 : PySem.W.nsIn K mainGlobals "NoFace" = some (some (.ref g11)))
    {g12 : Addr} (u12 : PySem.W.nsIn K mainGlobals "NoGround" = some (some (.ref g12)))
    {g13 : Addr} (u13 : PySem.W.nsIn K mainGlobals "Taken" = some (some (.ref g13)))
    {g14 : Addr} (u14 : PySem.W.nsIn K mainGlobals "NoLayer" = some (some (.ref g14)))
    {g15 : Addr} (u15 : PySem.W.nsIn K mainGlobals "TooMany" = some (some (.ref g15)))
    {f0 : Addr} {od0 an0 : Option Addr} {sl0 : Array (Option Value)} {oc0 kV0 dc0 pm0 cd0 ct0 : Value}
    (a0 : PySem.W.findIn K (.ref g10) "__init__" = some (some (.ref f0))) (i0 : PySem.W.isFn K (.ref f0) = true) (l0 : K.lookup f0 = some ⟨oc0, od0, .func (PySem.W.fnOf "__init__" "BadLayer.__init__" (defArgs s_BadLayer_init) (defBody s_BadLayer_init) (defScope s_BadLayer_init) .none kV0 dc0 pm0 an0 cd0 ct0), sl0⟩) (c0 : PySem.W.codeIn K cd0 "BadLayer.__init__" = true) (k0 : PySem.W.keepIn K (.ref f0) = true)
    {f1 : Addr} {od1 an1 : Option Addr} {sl1 : Array (Option Value)} {oc1 kV1 dc1 pm1 cd1 ct1 : Value}
    (a1 : PySem.W.findIn K (.ref g11) "__init__" = some (some (.ref f1))) (i1 : PySem.W.isFn K (.ref f1) = true) (l1 : K.lookup f1 = some ⟨oc1, od1, .func (PySem.W.fnOf "__init__" "NoFace.__init__" (defArgs s_NoFace_init) (defBody s_NoFace_init) (defScope s_NoFace_init) .none kV1 dc1 pm1 an1 cd1 ct1), sl1⟩) (c1 : PySem.W.codeIn K cd1 "NoFace.__init__" = true) (k1 : PySem.W.keepIn K (.ref f1) = true)
    {f2 : Addr} {od2 an2 : Option Addr} {sl2 : Array (Option Value)} {oc2 kV2 dc2 pm2 cd2 ct2 : Value}
    (a2 : PySem.W.findIn K (.ref g12) "__init__" = some (some (.ref f2))) (i2 : PySem.W.isFn K (.ref f2) = true) (l2 : K.lookup f2 = some ⟨oc2, od2, .func (PySem.W.fnOf "__init__" "NoGround.__init__" (defArgs s_NoGround_init) (defBody s_NoGround_init) (defScope s_NoGround_init) .none kV2 dc2 pm2 an2 cd2 ct2), sl2⟩) (c2 : PySem.W.codeIn K cd2 "NoGround.__init__" = true) (k2 : PySem.W.keepIn K (.ref f2) = true)
    {f3 : Addr} {od3 an3 : Option Addr} {sl3 : Array (Option Value)} {oc3 kV3 dc3 pm3 cd3 ct3 : Value}
    (a3 : PySem.W.findIn K (.ref g13) "__init__" = some (some (.ref f3))) (i3 : PySem.W.isFn K (.ref f3) = true) (l3 : K.lookup f3 = some ⟨oc3, od3, .func (PySem.W.fnOf "__init__" "Taken.__init__" (defArgs s_Taken_init) (defBody s_Taken_init) (defScope s_Taken_init) .none kV3 dc3 pm3 an3 cd3 ct3), sl3⟩) (c3 : PySem.W.codeIn K cd3 "Taken.__init__" = true) (k3 : PySem.W.keepIn K (.ref f3) = true)
    {f4 : Addr} {od4 an4 : Option Addr} {sl4 : Array (Option Value)} {oc4 kV4 dc4 pm4 cd4 ct4 : Value}
    (a4 : PySem.W.findIn K (.ref g14) "__init__" = some (some (.ref f4))) (i4 : PySem.W.isFn K (.ref f4) = true) (l4 : K.lookup f4 = some ⟨oc4, od4, .func (PySem.W.fnOf "__init__" "NoLayer.__init__" (defArgs s_NoLayer_init) (defBody s_NoLayer_init) (defScope s_NoLayer_init) .none kV4 dc4 pm4 an4 cd4 ct4), sl4⟩) (c4 : PySem.W.codeIn K cd4 "NoLayer.__init__" = true) (k4 : PySem.W.keepIn K (.ref f4) = true)
    {f5 : Addr} {od5 an5 : Option Addr} {sl5 : Array (Option Value)} {oc5 kV5 dc5 pm5 cd5 ct5 : Value}
    (a5 : PySem.W.findIn K (.ref g15) "__init__" = some (some (.ref f5))) (i5 : PySem.W.isFn K (.ref f5) = true) (l5 : K.lookup f5 = some ⟨oc5, od5, .func (PySem.W.fnOf "__init__" "TooMany.__init__" (defArgs s_TooMany_init) (defBody s_TooMany_init) (defScope s_TooMany_init) .none kV5 dc5 pm5 an5 cd5 ct5), sl5⟩) (c5 : PySem.W.codeIn K cd5 "TooMany.__init__" = true) (k5 : PySem.W.keepIn K (.ref f5) = true)
    {f6 : Addr} {od6 an6 : Option Addr} {sl6 : Array (Option Value)} {oc6 kV6 dc6 pm6 cd6 ct6 : Value}
    (a6 : PySem.W.nsIn K mainGlobals "is_whole" = some (some (.ref f6))) (l6 : K.lookup f6 = some ⟨oc6, od6, .func (PySem.W.fnOf "is_whole" "is_whole" (defArgs s_is_whole) (defBody s_is_whole) (defScope s_is_whole) .none kV6 dc6 pm6 an6 cd6 ct6), sl6⟩) (c6 : PySem.W.codeIn K cd6 "is_whole" = true) (k6 : PySem.W.keepIn K (.ref f6) = true)
    {f7 : Addr} {od7 an7 : Option Addr} {sl7 : Array (Option Value)} {oc7 kV7 dc7 pm7 cd7 ct7 : Value}
    (a7 : PySem.W.nsIn K mainGlobals "divisor_of" = some (some (.ref f7))) (l7 : K.lookup f7 = some ⟨oc7, od7, .func (PySem.W.fnOf "divisor_of" "divisor_of" (defArgs s_divisor_of) (defBody s_divisor_of) (defScope s_divisor_of) .none kV7 dc7 pm7 an7 cd7 ct7), sl7⟩) (c7 : PySem.W.codeIn K cd7 "divisor_of" = true) (k7 : PySem.W.keepIn K (.ref f7) = true)
    {f8 : Addr} {od8 an8 : Option Addr} {sl8 : Array (Option Value)} {oc8 kV8 dc8 pm8 cd8 ct8 : Value}
    (a8 : PySem.W.nsIn K mainGlobals "fraction" = some (some (.ref f8))) (l8 : K.lookup f8 = some ⟨oc8, od8, .func (PySem.W.fnOf "fraction" "fraction" (defArgs s_fraction) (defBody s_fraction) (defScope s_fraction) .none kV8 dc8 pm8 an8 cd8 ct8), sl8⟩) (c8 : PySem.W.codeIn K cd8 "fraction" = true) (k8 : PySem.W.keepIn K (.ref f8) = true)
    {f9 : Addr} {od9 an9 : Option Addr} {sl9 : Array (Option Value)} {oc9 kV9 dc9 pm9 cd9 ct9 : Value}
    (a9 : PySem.W.nsIn K mainGlobals "is_fraction" = some (some (.ref f9))) (l9 : K.lookup f9 = some ⟨oc9, od9, .func (PySem.W.fnOf "is_fraction" "is_fraction" (defArgs s_is_fraction) (defBody s_is_fraction) (defScope s_is_fraction) .none kV9 dc9 pm9 an9 cd9 ct9), sl9⟩) (c9 : PySem.W.codeIn K cd9 "is_fraction" = true) (k9 : PySem.W.keepIn K (.ref f9) = true)
    {f10 : Addr} {od10 an10 : Option Addr} {sl10 : Array (Option Value)} {oc10 kV10 dc10 pm10 cd10 ct10 : Value}
    (a10 : PySem.W.nsIn K mainGlobals "point_by" = some (some (.ref f10))) (l10 : K.lookup f10 = some ⟨oc10, od10, .func (PySem.W.fnOf "point_by" "point_by" (defArgs s_point_by) (defBody s_point_by) (defScope s_point_by) .none kV10 dc10 pm10 an10 cd10 ct10), sl10⟩) (c10 : PySem.W.codeIn K cd10 "point_by" = true) (k10 : PySem.W.keepIn K (.ref f10) = true)
    {f11 : Addr} {od11 an11 : Option Addr} {sl11 : Array (Option Value)} {oc11 kV11 dc11 pm11 cd11 ct11 : Value}
    (a11 : PySem.W.nsIn K mainGlobals "is_point" = some (some (.ref f11))) (l11 : K.lookup f11 = some ⟨oc11, od11, .func (PySem.W.fnOf "is_point" "is_point" (defArgs s_is_point) (defBody s_is_point) (defScope s_is_point) .none kV11 dc11 pm11 an11 cd11 ct11), sl11⟩) (c11 : PySem.W.codeIn K cd11 "is_point" = true) (k11 : PySem.W.keepIn K (.ref f11) = true)
    {f12 : Addr} {od12 an12 : Option Addr} {sl12 : Array (Option Value)} {oc12 kV12 dc12 pm12 cd12 ct12 : Value}
    (a12 : PySem.W.nsIn K mainGlobals "_law_hand" = some (some (.ref f12))) (l12 : K.lookup f12 = some ⟨oc12, od12, .func (PySem.W.fnOf "_law_hand" "_law_hand" (defArgs s_l_hand) (defBody s_l_hand) (defScope s_l_hand) .none kV12 dc12 pm12 an12 cd12 ct12), sl12⟩) (c12 : PySem.W.codeIn K cd12 "_law_hand" = true) (k12 : PySem.W.keepIn K (.ref f12) = true)
    {f13 : Addr} {od13 an13 : Option Addr} {sl13 : Array (Option Value)} {oc13 kV13 dc13 pm13 cd13 ct13 : Value}
    (a13 : PySem.W.nsIn K mainGlobals "_law_next" = some (some (.ref f13))) (l13 : K.lookup f13 = some ⟨oc13, od13, .func (PySem.W.fnOf "_law_next" "_law_next" (defArgs s_l_next) (defBody s_l_next) (defScope s_l_next) .none kV13 dc13 pm13 an13 cd13 ct13), sl13⟩) (c13 : PySem.W.codeIn K cd13 "_law_next" = true) (k13 : PySem.W.keepIn K (.ref f13) = true)
    {f14 : Addr} {od14 an14 : Option Addr} {sl14 : Array (Option Value)} {oc14 kV14 dc14 pm14 cd14 ct14 : Value}
    (a14 : PySem.W.nsIn K mainGlobals "_law_take" = some (some (.ref f14))) (l14 : K.lookup f14 = some ⟨oc14, od14, .func (PySem.W.fnOf "_law_take" "_law_take" (defArgs s_l_take) (defBody s_l_take) (defScope s_l_take) .none kV14 dc14 pm14 an14 cd14 ct14), sl14⟩) (c14 : PySem.W.codeIn K cd14 "_law_take" = true) (k14 : PySem.W.keepIn K (.ref f14) = true)
    {f15 : Addr} {od15 an15 : Option Addr} {sl15 : Array (Option Value)} {oc15 kV15 dc15 pm15 cd15 ct15 : Value}
    (a15 : PySem.W.nsIn K mainGlobals "_law_draw" = some (some (.ref f15))) (l15 : K.lookup f15 = some ⟨oc15, od15, .func (PySem.W.fnOf "_law_draw" "_law_draw" (defArgs s_l_draw) (defBody s_l_draw) (defScope s_l_draw) .none kV15 dc15 pm15 an15 cd15 ct15), sl15⟩) (c15 : PySem.W.codeIn K cd15 "_law_draw" = true) (k15 : PySem.W.keepIn K (.ref f15) = true)
    {f16 : Addr} {od16 an16 : Option Addr} {sl16 : Array (Option Value)} {oc16 kV16 dc16 pm16 cd16 ct16 : Value}
    (a16 : PySem.W.nsIn K mainGlobals "_law_divisor" = some (some (.ref f16))) (l16 : K.lookup f16 = some ⟨oc16, od16, .func (PySem.W.fnOf "_law_divisor" "_law_divisor" (defArgs s_l_divisor) (defBody s_l_divisor) (defScope s_l_divisor) .none kV16 dc16 pm16 an16 cd16 ct16), sl16⟩) (c16 : PySem.W.codeIn K cd16 "_law_divisor" = true) (k16 : PySem.W.keepIn K (.ref f16) = true)
    {f17 : Addr} {od17 an17 : Option Addr} {sl17 : Array (Option Value)} {oc17 kV17 dc17 pm17 cd17 ct17 : Value}
    (a17 : PySem.W.nsIn K mainGlobals "_law_lowest" = some (some (.ref f17))) (l17 : K.lookup f17 = some ⟨oc17, od17, .func (PySem.W.fnOf "_law_lowest" "_law_lowest" (defArgs s_l_lowest) (defBody s_l_lowest) (defScope s_l_lowest) .none kV17 dc17 pm17 an17 cd17 ct17), sl17⟩) (c17 : PySem.W.codeIn K cd17 "_law_lowest" = true) (k17 : PySem.W.keepIn K (.ref f17) = true)
    {f18 : Addr} {od18 an18 : Option Addr} {sl18 : Array (Option Value)} {oc18 kV18 dc18 pm18 cd18 ct18 : Value}
    (a18 : PySem.W.nsIn K mainGlobals "_law_point" = some (some (.ref f18))) (l18 : K.lookup f18 = some ⟨oc18, od18, .func (PySem.W.fnOf "_law_point" "_law_point" (defArgs s_l_point) (defBody s_l_point) (defScope s_l_point) .none kV18 dc18 pm18 an18 cd18 ct18), sl18⟩) (c18 : PySem.W.codeIn K cd18 "_law_point" = true) (k18 : PySem.W.keepIn K (.ref f18) = true)
    {f19 : Addr} {od19 an19 : Option Addr} {sl19 : Array (Option Value)} {oc19 kV19 dc19 pm19 cd19 ct19 : Value}
    (a19 : PySem.W.nsIn K mainGlobals "_law_number" = some (some (.ref f19))) (l19 : K.lookup f19 = some ⟨oc19, od19, .func (PySem.W.fnOf "_law_number" "_law_number" (defArgs s_l_number) (defBody s_l_number) (defScope s_l_number) .none kV19 dc19 pm19 an19 cd19 ct19), sl19⟩) (c19 : PySem.W.codeIn K cd19 "_law_number" = true) (k19 : PySem.W.keepIn K (.ref f19) = true)
    {f20 : Addr} {od20 an20 : Option Addr} {sl20 : Array (Option Value)} {oc20 kV20 dc20 pm20 cd20 ct20 : Value}
    (a20 : PySem.W.nsIn K mainGlobals "_law_any" = some (some (.ref f20))) (l20 : K.lookup f20 = some ⟨oc20, od20, .func (PySem.W.fnOf "_law_any" "_law_any" (defArgs s_l_any) (defBody s_l_any) (defScope s_l_any) .none kV20 dc20 pm20 an20 cd20 ct20), sl20⟩) (c20 : PySem.W.codeIn K cd20 "_law_any" = true) (k20 : PySem.W.keepIn K (.ref f20) = true)
    {f21 : Addr} {od21 an21 : Option Addr} {sl21 : Array (Option Value)} {oc21 kV21 dc21 pm21 cd21 ct21 : Value}
    (a21 : PySem.W.nsIn K mainGlobals "_law_spoilt" = some (some (.ref f21))) (l21 : K.lookup f21 = some ⟨oc21, od21, .func (PySem.W.fnOf "_law_spoilt" "_law_spoilt" (defArgs s_l_spoilt) (defBody s_l_spoilt) (defScope s_l_spoilt) .none kV21 dc21 pm21 an21 cd21 ct21), sl21⟩) (c21 : PySem.W.codeIn K cd21 "_law_spoilt" = true) (k21 : PySem.W.keepIn K (.ref f21) = true)
    {f22 : Addr} {od22 an22 : Option Addr} {sl22 : Array (Option Value)} {oc22 kV22 dc22 pm22 cd22 ct22 : Value}
    (a22 : PySem.W.nsIn K mainGlobals "_law_told" = some (some (.ref f22))) (l22 : K.lookup f22 = some ⟨oc22, od22, .func (PySem.W.fnOf "_law_told" "_law_told" (defArgs s_l_told) (defBody s_l_told) (defScope s_l_told) .none kV22 dc22 pm22 an22 cd22 ct22), sl22⟩) (c22 : PySem.W.codeIn K cd22 "_law_told" = true) (k22 : PySem.W.keepIn K (.ref f22) = true)
    {f23 : Addr} {od23 an23 : Option Addr} {sl23 : Array (Option Value)} {oc23 kV23 dc23 pm23 cd23 ct23 : Value}
    (a23 : PySem.W.nsIn K mainGlobals "_law_raised" = some (some (.ref f23))) (l23 : K.lookup f23 = some ⟨oc23, od23, .func (PySem.W.fnOf "_law_raised" "_law_raised" (defArgs s_l_raised) (defBody s_l_raised) (defScope s_l_raised) .none kV23 dc23 pm23 an23 cd23 ct23), sl23⟩) (c23 : PySem.W.codeIn K cd23 "_law_raised" = true) (k23 : PySem.W.keepIn K (.ref f23) = true)
    {f24 : Addr} {od24 an24 : Option Addr} {sl24 : Array (Option Value)} {oc24 kV24 dc24 pm24 cd24 ct24 : Value}
    (a24 : PySem.W.nsIn K mainGlobals "_law_sorts" = some (some (.ref f24))) (l24 : K.lookup f24 = some ⟨oc24, od24, .func (PySem.W.fnOf "_law_sorts" "_law_sorts" (defArgs s_l_sorts) (defBody s_l_sorts) (defScope s_l_sorts) .none kV24 dc24 pm24 an24 cd24 ct24), sl24⟩) (c24 : PySem.W.codeIn K cd24 "_law_sorts" = true) (k24 : PySem.W.keepIn K (.ref f24) = true)
    {f25 : Addr} {od25 an25 : Option Addr} {sl25 : Array (Option Value)} {oc25 kV25 dc25 pm25 cd25 ct25 : Value}
    (a25 : PySem.W.nsIn K mainGlobals "_law_apart" = some (some (.ref f25))) (l25 : K.lookup f25 = some ⟨oc25, od25, .func (PySem.W.fnOf "_law_apart" "_law_apart" (defArgs s_l_apart) (defBody s_l_apart) (defScope s_l_apart) .none kV25 dc25 pm25 an25 cd25 ct25), sl25⟩) (c25 : PySem.W.codeIn K cd25 "_law_apart" = true) (k25 : PySem.W.keepIn K (.ref f25) = true)
    {f26 : Addr} {od26 an26 : Option Addr} {sl26 : Array (Option Value)} {oc26 kV26 dc26 pm26 cd26 ct26 : Value}
    (a26 : PySem.W.nsIn K mainGlobals "law" = some (some (.ref f26))) (l26 : K.lookup f26 = some ⟨oc26, od26, .func (PySem.W.fnOf "law" "law" (defArgs s_law) (defBody s_law) (defScope s_law) .none kV26 dc26 pm26 an26 cd26 ct26), sl26⟩) (c26 : PySem.W.codeIn K cd26 "law" = true) (k26 : PySem.W.keepIn K (.ref f26) = true)
    (z0 : PySem.W.nsIn K mainGlobals "ValueError" = some none)
    (z1 : PySem.W.nsIn K mainGlobals "abs" = some none)
    (z2 : PySem.W.nsIn K mainGlobals "all" = some none)
    (z3 : PySem.W.nsIn K mainGlobals "bool" = some none)
    (z4 : PySem.W.nsIn K mainGlobals "int" = some none)
    (z5 : PySem.W.nsIn K mainGlobals "isinstance" = some none)
    (z6 : PySem.W.nsIn K mainGlobals "len" = some none)
    (z7 : PySem.W.nsIn K mainGlobals "list" = some none)
    (z8 : PySem.W.nsIn K mainGlobals "range" = some none)
    (z9 : PySem.W.nsIn K mainGlobals "tuple" = some none)
    (wx10 : exI K g10 f0 = true) (kc10 : PySem.W.keepIn K (.ref g10) = true) (wc10 : exC K g10 = true) (wm10 : exM K g10 = true) (sa10 : PySem.W.findIn K (.ref g10) "__setattr__" = some (some (.builtin "object.__setattr__")))
    (n10_ring : PySem.W.findIn K (.ref g10) "ring" = some none)
    (n10_at : PySem.W.findIn K (.ref g10) "at" = some none)
    (wx11 : exI K g11 f1 = true) (kc11 : PySem.W.keepIn K (.ref g11) = true) (wc11 : exC K g11 = true) (wm11 : exM K g11 = true) (sa11 : PySem.W.findIn K (.ref g11) "__setattr__" = some (some (.builtin "object.__setattr__")))
    (n11_number : PySem.W.findIn K (.ref g11) "number" = some none)
    (wx12 : exI K g12 f2 = true) (kc12 : PySem.W.keepIn K (.ref g12) = true) (wc12 : exC K g12 = true) (wm12 : exM K g12 = true) (sa12 : PySem.W.findIn K (.ref g12) "__setattr__" = some (some (.builtin "object.__setattr__")))
    (n12_point : PySem.W.findIn K (.ref g12) "point" = some none)
    (wx13 : exI K g13 f3 = true) (kc13 : PySem.W.keepIn K (.ref g13) = true) (wc13 : exC K g13 = true) (wm13 : exM K g13 = true) (sa13 : PySem.W.findIn K (.ref g13) "__setattr__" = some (some (.builtin "object.__setattr__")))
    (n13_name : PySem.W.findIn K (.ref g13) "name" = some none)
    (wx14 : exI K g14 f4 = true) (kc14 : PySem.W.keepIn K (.ref g14) = true) (wc14 : exC K g14 = true) (wm14 : exM K g14 = true) (sa14 : PySem.W.findIn K (.ref g14) "__setattr__" = some (some (.builtin "object.__setattr__")))
    (n14_name : PySem.W.findIn K (.ref g14) "name" = some none)
    (wx15 : exI K g15 f5 = true) (kc15 : PySem.W.keepIn K (.ref g15) = true) (wc15 : exC K g15 = true) (wm15 : exM K g15 = true) (sa15 : PySem.W.findIn K (.ref g15) "__setattr__" = some (some (.builtin "object.__setattr__")))
    (n15_most : PySem.W.findIn K (.ref g15) "most" = some none)
    (w0 : exK K g1 = true)
    (w1 : exK K g2 = true)
    (w2 : exK K g3 = true)
    (w3 : exK K g4 = true)
    (w4 : exK K g5 = true)
    (w5 : exK K g6 = true)
    (w6 : exK K g7 = true)
    (w7 : exK K g8 = true)
    (w8 : exK K g9 = true)
    (w9 : kits K g0 [g1, g2, g10, g3, g11, g4, g12, g5, g13, g14, g15, g6, g7, g8, g9] = true)
    (w10 : decide (List.Nodup [g1, g2, g10, g3, g11, g4, g12, g5, g13, g14, g15, g6, g7, g8, g9]) = true)
    : ∃ fd : FuncData, (∀ (s : Shared) (v : Value), BindsTo s fd ⟨[v], []⟩ [("_law_script", v)]) ∧ ∀ base : Heap, K.In base → base.Ns mainGlobals mg → FnOk l.prog w K mg base CX0 6 fa fd ["_law_script"] (sp_law K) := by
  have e := hfa.symm.trans (PySem.W.mg_of X G a26)
  cases e
  have F0 := fun_mk (st := s_BadLayer_init) l0 c0 k0
  have b0 := F0.binds (ps := ["self", "ring", "at"]) fun _ _ _ _ _ _ us hl => match us, hl with | [_, _, _], _ => rfl
  have F1 := fun_mk (st := s_NoFace_init) l1 c1 k1
  have b1 := F1.binds (ps := ["self", "number"]) fun _ _ _ _ _ _ us hl => match us, hl with | [_, _], _ => rfl
  have F2 := fun_mk (st := s_NoGround_init) l2 c2 k2
  have b2 := F2.binds (ps := ["self", "point"]) fun _ _ _ _ _ _ us hl => match us, hl with | [_, _], _ => rfl
  have F3 := fun_mk (st := s_Taken_init) l3 c3 k3
  have b3 := F3.binds (ps := ["self", "name"]) fun _ _ _ _ _ _ us hl => match us, hl with | [_, _], _ => rfl
  have F4 := fun_mk (st := s_NoLayer_init) l4 c4 k4
  have b4 := F4.binds (ps := ["self", "name"]) fun _ _ _ _ _ _ us hl => match us, hl with | [_, _], _ => rfl
  have F5 := fun_mk (st := s_TooMany_init) l5 c5 k5
  have b5 := F5.binds (ps := ["self", "most"]) fun _ _ _ _ _ _ us hl => match us, hl with | [_, _], _ => rfl
  have F6 := fun_mk (st := s_is_whole) l6 c6 k6
  have b6 := F6.binds (ps := ["thing"]) fun _ _ _ _ _ _ us hl => match us, hl with | [_], _ => rfl
  have F7 := fun_mk (st := s_divisor_of) l7 c7 k7
  have b7 := F7.binds (ps := ["one", "other"]) fun _ _ _ _ _ _ us hl => match us, hl with | [_, _], _ => rfl
  have F8 := fun_mk (st := s_fraction) l8 c8 k8
  have b8 := F8.binds (ps := ["top", "bottom"]) fun _ _ _ _ _ _ us hl => match us, hl with | [_, _], _ => rfl
  have F9 := fun_mk (st := s_is_fraction) l9 c9 k9
  have b9 := F9.binds (ps := ["thing"]) fun _ _ _ _ _ _ us hl => match us, hl with | [_], _ => rfl
  have F10 := fun_mk (st := s_point_by) l10 c10 k10
  have b10 := F10.binds (ps := ["a", "b", "c"]) fun _ _ _ _ _ _ us hl => match us, hl with | [_, _, _], _ => rfl
  have F11 := fun_mk (st := s_is_point) l11 c11 k11
  have b11 := F11.binds (ps := ["thing"]) fun _ _ _ _ _ _ us hl => match us, hl with | [_], _ => rfl
  have F12 := fun_mk (st := s_l_hand) l12 c12 k12
  have b12 := F12.binds (ps := ["_law_script"]) fun _ _ _ _ _ _ us hl => match us, hl with | [_], _ => rfl
  have F13 := fun_mk (st := s_l_next) l13 c13 k13
  have b13 := F13.binds (ps := ["_law_hand_here"]) fun _ _ _ _ _ _ us hl => match us, hl with | [_], _ => rfl
  have F14 := fun_mk (st := s_l_take) l14 c14 k14
  have b14 := F14.binds (ps := ["_law_hand_here"]) fun _ _ _ _ _ _ us hl => match us, hl with | [_], _ => rfl
  have F15 := fun_mk (st := s_l_draw) l15 c15 k15
  have b15 := F15.binds (ps := ["_law_hand_here", "_law_many"]) fun _ _ _ _ _ _ us hl => match us, hl with | [_, _], _ => rfl
  have F16 := fun_mk (st := s_l_divisor) l16 c16 k16
  have b16 := F16.binds (ps := ["_law_one", "_law_other"]) fun _ _ _ _ _ _ us hl => match us, hl with | [_, _], _ => rfl
  have F17 := fun_mk (st := s_l_lowest) l17 c17 k17
  have b17 := F17.binds (ps := ["_law_top", "_law_bottom"]) fun _ _ _ _ _ _ us hl => match us, hl with | [_, _], _ => rfl
  have F18 := fun_mk (st := s_l_point) l18 c18 k18
  have b18 := F18.binds (ps := ["_law_a", "_law_b", "_law_c"]) fun _ _ _ _ _ _ us hl => match us, hl with | [_, _, _], _ => rfl
  have F19 := fun_mk (st := s_l_number) l19 c19 k19
  have b19 := F19.binds (ps := ["_law_hand_here"]) fun _ _ _ _ _ _ us hl => match us, hl with | [_], _ => rfl
  have F20 := fun_mk (st := s_l_any) l20 c20 k20
  have b20 := F20.binds (ps := ["_law_hand_here"]) fun _ _ _ _ _ _ us hl => match us, hl with | [_], _ => rfl
  have F21 := fun_mk (st := s_l_spoilt) l21 c21 k21
  have b21 := F21.binds (ps := ["_law_hand_here", "_law_good"]) fun _ _ _ _ _ _ us hl => match us, hl with | [_, _], _ => rfl
  have F22 := fun_mk (st := s_l_told) l22 c22 k22
  have b22 := F22.binds (ps := ["_law_told_here", "_law_due"]) fun _ _ _ _ _ _ us hl => match us, hl with | [_, _], _ => rfl
  have F23 := fun_mk (st := s_l_raised) l23 c23 k23
  have b23 := F23.binds (ps := ["_law_which", "_law_some"]) fun _ _ _ _ _ _ us hl => match us, hl with | [_, _], _ => rfl
  have F24 := fun_mk (st := s_l_sorts) l24 c24 k24
  have b24 := F24.binds (ps := ["_law_which", "_law_some"]) fun _ _ _ _ _ _ us hl => match us, hl with | [_, _], _ => rfl
  have F25 := fun_mk (st := s_l_apart) l25 c25 k25
  have b25 := F25.binds (ps := ["_law_which", "_law_some"]) fun _ _ _ _ _ _ us hl => match us, hl with | [_, _], _ => rfl
  have F26 := fun_mk (st := s_law) l26 c26 k26
  have b26 := F26.binds (ps := ["_law_script"]) fun _ _ _ _ _ _ us hl => match us, hl with | [_], _ => rfl
  have T : Txt K mg { f_BadLayer_init := f0, d_BadLayer_init := _, f_NoFace_init := f1, d_NoFace_init := _, f_NoGround_init := f2, d_NoGround_init := _, f_Taken_init := f3, d_Taken_init := _, f_NoLayer_init := f4, d_NoLayer_init := _, f_TooMany_init := f5, d_TooMany_init := _, f_is_whole := f6, d_is_whole := _, f_divisor_of := f7, d_divisor_of := _, f_fraction := f8, d_fraction := _, f_is_fraction := f9, d_is_fraction := _, f_point_by := f10, d_point_by := _, f_is_point := f11, d_is_point := _, f_l_hand := f12, d_l_hand := _, f_l_next := f13, d_l_next := _, f_l_take := f14, d_l_take := _, f_l_draw := f15, d_l_draw := _, f_l_divisor := f16, d_l_divisor := _, f_l_lowest := f17, d_l_lowest := _, f_l_point := f18, d_l_point := _, f_l_number := f19, d_l_number := _, f_l_any := f20, d_l_any := _, f_l_spoilt := f21, d_l_spoilt := _, f_l_told := f22, d_l_told := _, f_l_raised := f23, d_l_raised := _, f_l_sorts := f24, d_l_sorts := _, f_l_apart := f25, d_l_apart := _, f_law := fa, d_law := _, c_PlyError := g0, c_NoNumber := g1, c_NoPoint := g2, c_BadPlan := g3, c_Endless := g4, c_NoName := g5, c_BadWish := g6, c_NoSize := g7, c_NoText := g8, c_NoRow := g9, c_BadLayer := g10, c_NoFace := g11, c_NoGround := g12, c_Taken := g13, c_NoLayer := g14, c_TooMany := g15 } := { BadLayer_init := ⟨F0, b0⟩, mx_BadLayer := wx10, kx_BadLayer := kc10, xc_BadLayer := ⟨wc10, wm10, sa10⟩, n_BadLayer_ring := n10_ring, n_BadLayer_at := n10_at, NoFace_init := ⟨F1, b1⟩, mx_NoFace := wx11, kx_NoFace := kc11, xc_NoFace := ⟨wc11, wm11, sa11⟩, n_NoFace_number := n11_number, NoGround_init := ⟨F2, b2⟩, mx_NoGround := wx12, kx_NoGround := kc12, xc_NoGround := ⟨wc12, wm12, sa12⟩, n_NoGround_point := n12_point, Taken_init := ⟨F3, b3⟩, mx_Taken := wx13, kx_Taken := kc13, xc_Taken := ⟨wc13, wm13, sa13⟩, n_Taken_name := n13_name, NoLayer_init := ⟨F4, b4⟩, mx_NoLayer := wx14, kx_NoLayer := kc14, xc_NoLayer := ⟨wc14, wm14, sa14⟩, n_NoLayer_name := n14_name, TooMany_init := ⟨F5, b5⟩, mx_TooMany := wx15, kx_TooMany := kc15, xc_TooMany := ⟨wc15, wm15, sa15⟩, n_TooMany_most := n15_most, is_whole := ⟨F6, b6, PySem.W.mg_of X G a6⟩, divisor_of := ⟨F7, b7, PySem.W.mg_of X G a7⟩, fraction := ⟨F8, b8, PySem.W.mg_of X G a8⟩, is_fraction := ⟨F9, b9, PySem.W.mg_of X G a9⟩, point_by := ⟨F10, b10, PySem.W.mg_of X G a10⟩, is_point := ⟨F11, b11, PySem.W.mg_of X G a11⟩, l_hand := ⟨F12, b12, PySem.W.mg_of X G a12⟩, l_next := ⟨F13, b13, PySem.W.mg_of X G a13⟩, l_take := ⟨F14, b14, PySem.W.mg_of X G a14⟩, l_draw := ⟨F15, b15, PySem.W.mg_of X G a15⟩, l_divisor := ⟨F16, b16, PySem.W.mg_of X G a16⟩, l_lowest := ⟨F17, b17, PySem.W.mg_of X G a17⟩, l_point := ⟨F18, b18, PySem.W.mg_of X G a18⟩, l_number := ⟨F19, b19, PySem.W.mg_of X G a19⟩, l_any := ⟨F20, b20, PySem.W.mg_of X G a20⟩, l_spoilt := ⟨F21, b21, PySem.W.mg_of X G a21⟩, l_told := ⟨F22, b22, PySem.W.mg_of X G a22⟩, l_raised := ⟨F23, b23, PySem.W.mg_of X G a23⟩, l_sorts := ⟨F24, b24, PySem.W.mg_of X G a24⟩, l_apart := ⟨F25, b25, PySem.W.mg_of X G a25⟩, law := ⟨F26, b26, PySem.W.mg_of X G a26⟩, b_ValueError := PySem.W.mg_none_of X G z0, b_abs := PySem.W.mg_none_of X G z1, b_all := PySem.W.mg_none_of X G z2, b_bool := PySem.W.mg_none_of X G z3, b_int := PySem.W.mg_none_of X G z4, b_isinstance := PySem.W.mg_none_of X G z5, b_len := PySem.W.mg_none_of X G z6, b_list := PySem.W.mg_none_of X G z7, b_range := PySem.W.mg_none_of X G z8, b_tuple := PySem.W.mg_none_of X G z9, m_PlyError := PySem.W.mg_of X G u0, m_NoNumber := PySem.W.mg_of X G u1, m_NoPoint := PySem.W.mg_of X G u2, m_BadPlan := PySem.W.mg_of X G u3, m_Endless := PySem.W.mg_of X G u4, m_NoName := PySem.W.mg_of X G u5, m_BadWish := PySem.W.mg_of X G u6, m_NoSize := PySem.W.mg_of X G u7, m_NoText := PySem.W.mg_of X G u8, m_NoRow := PySem.W.mg_of X G u9, m_BadLayer := PySem.W.mg_of X G u10, m_NoFace := PySem.W.mg_of X G u11, m_NoGround := PySem.W.mg_of X G u12, m_Taken := PySem.W.mg_of X G u13, m_NoLayer := PySem.W.mg_of X G u14, m_TooMany := PySem.W.mg_of X G u15, e_NoNumber := w0, e_NoPoint := w1, e_BadPlan := w2, e_Endless := w3, e_NoName := w4, e_BadWish := w5, e_NoSize := w6, e_NoText := w7, e_NoRow := w8, kits := w9, nodu := w10 }
  exact ⟨PySem.W.fnOf "law" "law" (defArgs s_law) (defBody s_law) (defScope s_law) .none kV26 dc26 pm26 an26 cd26 ct26, fun s v => .of_eq rfl, fun base _ _ => ok_law T⟩
theorem walk {l : PySem.W.OpenLaw} {q : Program} {loose : List Str} {XP : (Str → Option Value) → Heap → Prop} {YP : World → Heap → Prop} {d : DefRec} {K : Params → PySem.W.Frag} (hn : l.most = some 63) (hdf : d.params.defaults = [])
    (hY : ∀ (w : World) (h : Heap), YP w h → (K w.params).In h)
    (F : ∀ (w : World) (mg : Str → Option Value) (fa : Addr) (h : Heap), (K w.params).In h → h.Ns mainGlobals mg → mg d.name = some (.ref fa) →
      ∃ fd : FuncData, (∀ (s : Shared) (u : Value), BindsTo s fd ⟨[u], []⟩ [("_law_script", u)]) ∧ ∀ base : Heap, (K w.params).In base → base.Ns mainGlobals mg → FnOk l.prog w (K w.params) mg base CX0 6 fa fd ["_law_script"] (sp_law (K w.params))) :
    PySem.W.WalkO q loose XP YP l.row.toRowW d [] (fun f vs => PySem.call f vs) :=
  L2.walk_of (n := 63) (k := 6) (x := "_law_script") (CX := fun _ => CX0) (sp := fun w => sp_law (K w.params)) hn (by decide) hdf ⟨rfl, by decide, by decide⟩ hY F (fun _ _ a ns hl _ hS => ⟨a, ns, rfl, hS, hl, fun _ => rfl⟩) fun _ _ _ _ _ z => z
end My
def PySem.W.Fast.tw8539646643208352272 : Nat := 0
def PySem.W.Fast.tw11609801672271575 : Nat := 0
def PySem.W.Fast.tw12883051601783284712 : Nat := 0
def PySem.W.Fast.tw10923316837112109358 : Nat := 0
def PySem.W.Fast.tw15727575573450343340 : Nat := 0
def PySem.W.Fast.tw8666607917743028333 : Nat := 0
def PySem.W.Fast.tw18061113636649570554 : Nat := 0
def PySem.W.Fast.tw4723250931239388505 : Nat := 0
def PySem.W.Fast.tw2814265117461029028 : Nat := 0
def PySem.W.Fast.tw10042442915580277915 : Nat := 0
def PySem.W.Fast.tw14392233452716589057 : Nat := 0
def PySem.W.Fast.tw14525542397273906249 : Nat := 0
def PySem.W.Fast.tw1886036504235293744 : Nat := 0
def PySem.W.Fast.tw14522432008967496639 : Nat := 0
def PySem.W.Fast.tw4846169304151479877 : Nat := 0
def PySem.W.Fast.tw6486804374244655955 : Nat := 0
def PySem.W.Fast.tw2375951841570368529 : Nat := 0
def PySem.W.Fast.tw16090596259224190986 : Nat := 0
def PySem.W.Fast.tw6523589191711041013 : Nat := 0
def PySem.W.Fast.tw9542485150429055971 : Nat := 0
def PySem.W.Fast.tw2957928171917223732 : Nat := 0
def PySem.W.Fast.tw14287017345979485058 : Nat := 0
open PySem PySem.W PyProof.Rows
set_option maxRecDepth 100000 in
set_option maxHeartbeats 0 in
theorem PySem.Challenge.cw_plymap_k19_whatever_things_holds : PySem.Challenge.rw_plymap_k19_whatever_things.Holds := by
  w_on; o_law; k_head; (case hw => w_witness2)
  k_fill
  refine My.walk (l := PySem.Challenge.rw_plymap_k19_whatever_things) rfl rfl (fun w h Y => PySem.W.kIn_of Y) ?F
  case F =>
    intro w mg fa h KX G hmg
    refine' My.all_mk KX G hmg ?u0 ?u1 ?u2 ?u3 ?u4 ?u5 ?u6 ?u7 ?u8 ?u9 ?u10 ?u11 ?u12 ?u13 ?u14 ?u15 ?a0 ?i0 ?l0 ?c0 ?k0 ?a1 ?i1 ?l1 ?c1 ?k1 ?a2 ?i2 ?l2 ?c2 ?k2 ?a3 ?i3 ?l3 ?c3 ?k3 ?a4 ?i4 ?l4 ?c4 ?k4 ?a5 ?i5 ?l5 ?c5 ?k5 ?a6 ?l6 ?c6 ?k6 ?a7 ?l7 ?c7 ?k7 ?a8 ?l8 ?c8 ?k8 ?a9 ?l9 ?c9 ?k9 ?a10 ?l10 ?c10 ?k10 ?a11 ?l11 ?c11 ?k11 ?a12 ?l12 ?c12 ?k12 ?a13 ?l13 ?c13 ?k13 ?a14 ?l14 ?c14 ?k14 ?a15 ?l15 ?c15 ?k15 ?a16 ?l16 ?c16 ?k16 ?a17 ?l17 ?c17 ?k17 ?a18 ?l18 ?c18 ?k18 ?a19 ?l19 ?c19 ?k19 ?a20 ?l20 ?c20 ?k20 ?a21 ?l21 ?c21 ?k21 ?a22 ?l22 ?c22 ?k22 ?a23 ?l23 ?c23 ?k23 ?a24 ?l24 ?c24 ?k24 ?a25 ?l25 ?c25 ?k25 ?a26 ?l26 ?c26 ?k26 ?z0 ?z1 ?z2 ?z3 ?z4 ?z5 ?z6 ?z7 ?z8 ?z9 ?wx10 ?kc10 ?wc10 ?wm10 ?sa10 ?n10_ring ?n10_at ?wx11 ?kc11 ?wc11 ?wm11 ?sa11 ?n11_number ?wx12 ?kc12 ?wc12 ?wm12 ?sa12 ?n12_point ?wx13 ?kc13 ?wc13 ?wm13 ?sa13 ?n13_name ?wx14 ?kc14 ?wc14 ?wm14 ?sa14 ?n14_name ?wx15 ?kc15 ?wc15 ?wm15 ?sa15 ?n15_most ?w0 ?w1 ?w2 ?w3 ?w4 ?w5 ?w6 ?w7 ?w8 ?w9 ?w10
    (case u0 => k_is)
    (case u1 => k_is)
    (case u2 => k_is)
    (case u3 => k_is)
    (case u4 => k_is)
    (case u5 => k_is)
    (case u6 => k_is)
    (case u7 => k_is)
    (case u8 => k_is)
    (case u9 => k_is)
    (case u10 => k_is)
    (case u11 => k_is)
    (case u12 => k_is)
    (case u13 => k_is)
    (case u14 => k_is)
    (case u15 => k_is)
    (case a0 => k_is)
    (case i0 => k_is)
    (case l0 => k_is)
    (case c0 => k_is)
    (case k0 => k_is)
    (case a1 => k_is)
    (case i1 => k_is)
    (case l1 => k_is)
    (case c1 => k_is)
    (case k1 => k_is)
    (case a2 => k_is)
    (case i2 => k_is)
    (case l2 => k_is)
    (case c2 => k_is)
    (case k2 => k_is)
    (case a3 => k_is)
    (case i3 => k_is)
    (case l3 => k_is)
    (case c3 => k_is)
    (case k3 => k_is)
    (case a4 => k_is)
    (case i4 => k_is)
    (case l4 => k_is)
    (case c4 => k_is)
    (case k4 => k_is)
    (case a5 => k_is)
    (case i5 => k_is)
    (case l5 => k_is)
    (case c5 => k_is)
    (case k5 => k_is)
    (case a6 => k_is)
    (case l6 => k_is)
    (case c6 => k_is)
    (case k6 => k_is)
    (case a7 => k_is)
    (case l7 => k_is)
    (case c7 => k_is)
    (case k7 => k_is)
    (case a8 => k_is)
    (case l8 => k_is)
    (case c8 => k_is)
    (case k8 => k_is)
    (case a9 => k_is)
    (case l9 => k_is)
    (case c9 => k_is)
    (case k9 => k_is)
    (case a10 => k_is)
    (case l10 => k_is)
    (case c10 => k_is)
    (case k10 => k_is)
    (case a11 => k_is)
    (case l11 => k_is)
    (case c11 => k_is)
    (case k11 => k_is)
    (case a12 => k_is)
    (case l12 => k_is)
    (case c12 => k_is)
    (case k12 => k_is)
    (case a13 => k_is)
    (case l13 => k_is)
    (case c13 => k_is)
    (case k13 => k_is)
    (case a14 => k_is)
    (case l14 => k_is)
    (case c14 => k_is)
    (case k14 => k_is)
    (case a15 => k_is)
    (case l15 => k_is)
    (case c15 => k_is)
    (case k15 => k_is)
    (case a16 => k_is)
    (case l16 => k_is)
    (case c16 => k_is)
    (case k16 => k_is)
    (case a17 => k_is)
    (case l17 => k_is)
    (case c17 => k_is)
    (case k17 => k_is)
    (case a18 => k_is)
    (case l18 => k_is)
    (case c18 => k_is)
    (case k18 => k_is)
    (case a19 => k_is)
    (case l19 => k_is)
    (case c19 => k_is)
    (case k19 => k_is)
    (case a20 => k_is)
    (case l20 => k_is)
    (case c20 => k_is)
    (case k20 => k_is)
    (case a21 => k_is)
    (case l21 => k_is)
    (case c21 => k_is)
    (case k21 => k_is)
    (case a22 => k_is)
    (case l22 => k_is)
    (case c22 => k_is)
    (case k22 => k_is)
    (case a23 => k_is)
    (case l23 => k_is)
    (case c23 => k_is)
    (case k23 => k_is)
    (case a24 => k_is)
    (case l24 => k_is)
    (case c24 => k_is)
    (case k24 => k_is)
    (case a25 => k_is)
    (case l25 => k_is)
    (case c25 => k_is)
    (case k25 => k_is)
    (case a26 => k_is)
    (case l26 => k_is)
    (case c26 => k_is)
    (case k26 => k_is)
    (case z0 => k_is)
    (case z1 => k_is)
    (case z2 => k_is)
    (case z3 => k_is)
    (case z4 => k_is)
    (case z5 => k_is)
    (case z6 => k_is)
    (case z7 => k_is)
    (case z8 => k_is)
    (case z9 => k_is)
    (case wx10 => kernel_rfl)
    (case kc10 => k_is)
    (case wc10 => kernel_rfl)
    (case wm10 => kernel_rfl)
    (case sa10 => k_is)
    (case n10_ring => k_is)
    (case n10_at => k_is)
    (case wx11 => kernel_rfl)
    (case kc11 => k_is)
    (case wc11 => kernel_rfl)
    (case wm11 => kernel_rfl)
    (case sa11 => k_is)
    (case n11_number => k_is)
    (case wx12 => kernel_rfl)
    (case kc12 => k_is)
    (case wc12 => kernel_rfl)
    (case wm12 => kernel_rfl)
    (case sa12 => k_is)
    (case n12_point => k_is)
    (case wx13 => kernel_rfl)
    (case kc13 => k_is)
    (case wc13 => kernel_rfl)
    (case wm13 => kernel_rfl)
    (case sa13 => k_is)
    (case n13_name => k_is)
    (case wx14 => kernel_rfl)
    (case kc14 => k_is)
    (case wc14 => kernel_rfl)
    (case wm14 => kernel_rfl)
    (case sa14 => k_is)
    (case n14_name => k_is)
    (case wx15 => kernel_rfl)
    (case kc15 => k_is)
    (case wc15 => kernel_rfl)
    (case wm15 => kernel_rfl)
    (case sa15 => k_is)
    (case n15_most => k_is)
    (case w0 => kernel_rfl)
    (case w1 => kernel_rfl)
    (case w2 => kernel_rfl)
    (case w3 => kernel_rfl)
    (case w4 => kernel_rfl)
    (case w5 => kernel_rfl)
    (case w6 => kernel_rfl)
    (case w7 => kernel_rfl)
    (case w8 => kernel_rfl)
    (case w9 => kernel_rfl)
    (case w10 => kernel_rfl)
